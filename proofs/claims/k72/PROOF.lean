import PyProof.Rows.All
import Wide.All
import OpenK.AllK
import Wide.FinOn
import Lean
import PyProof.EqAt
import PyProof.EqKinds
import PyProof.TupleCall
import PyProof.AutoSeq1
import PyProof.NeKinds
import PyProof.ListRange
import PyProof.CollectIter
import PyProof.TupleOfGen
import PyProof.StationsW
import PyProof.Rows.Catch
import PyProof.StrCalls2
import PyProof.StrBlockH
import PyProof.SliceStr2
import KE.KIntText
import PyProof.StrWalks
import KE.KDictLaws
import PyProof.DictTruth
import PyProof.Rows.SetFrom
import PyProof.SetRoads
import KE.KDictList
import PyProof.StrLawsTight
import PyProof.StrLawsOccR
import PyProof.StrBlockL
import PyProof.StrLawsNeg
import PyProof.StrBlockI
import PySem.Challenge.RW_oftentogether_k72_shown_and_listed
set_option maxRecDepth 100000
set_option maxHeartbeats 4000000
set_option Elab.async false
set_option linter.all false
abbrev g0:=@Option.bind_eq_some_iff
abbrev g6:=@Option.bind_some
abbrev g7:=@List.length_map
abbrev g8:=@List.getElem?_set_ne
abbrev g9:=@PySem.wpAny_bind
abbrev gb:=@PySem.Heap.get?_push_of_some
abbrev gc:=@List.size_toArray
abbrev gd:=@PySem.wpAny_pure
abbrev gf:=@List.mem_map
abbrev gh:=@List.length_append
abbrev gi:=@List.mem_cons_self
abbrev gj:=@List.map_map
abbrev gm:=@Nat.le_refl
abbrev gp:=@PySem.Heap.lt_size
abbrev gq:=@Option.map_eq_some_iff
abbrev gr:=@List.mem_cons_of_mem
abbrev gs:=@List.length_singleton
abbrev gu:=@if_pos
abbrev gv:=@List.getElem?_map
abbrev gw:=@Nat.lt_of_lt_of_le
abbrev gx:=@Bool.false_ne_true
abbrev gy:=@List.map_cons
abbrev gz:=@List.length_cons
abbrev m4:=@PySem.Heap.get?_push_size
abbrev m5:=@Ne.symm
abbrev m6:=@Option.map_some
abbrev m7:=@List.getElem?_eq_getElem
abbrev m8:=@decide_eq_false
abbrev m9:=@decide_eq_true
abbrev ma:=@Nat.le_trans
abbrev md:=@List.mem_append_right
abbrev me:=@List.mem_cons
abbrev mf:=@if_neg
abbrev mh:=@Nat.ne_of_lt
abbrev mi:=@Option.some.inj
abbrev mj:=@Bool.and_eq_true
abbrev ml:=@List.lookup_cons
abbrev mm:=@List.map_congr_left
abbrev mn:=@List.length_take
abbrev mq:=@List.getElem?_eq_some_iff
abbrev mr:=@List.length_set
abbrev mv:=@List.flatten_cons
abbrev mw:=@PyProof.Rows.slot_tuple_getitem
abbrev my:=@List.getElem?_append_left
abbrev mz:=@List.append_assoc
abbrev n0:=@List.mem_range
abbrev n3:=@congrArg
abbrev n4:=@PySem.AutoSeq1.wpAny_loadPart'
abbrev n5:=@PySem.Around.under_plainId
abbrev n6:=@List.getElem?_append_right
abbrev n8:=@List.getD_eq_getElem?_getD
abbrev n9:=@List.getElem?_set_self
abbrev nc:=@PySem.wpAny_newObj_type
abbrev ng:=@Int.toNat_of_nonneg
abbrev nh:=@List.mem_append
abbrev ni:=@PySem.codeAny_builtin
abbrev nj:=@List.mem_singleton
abbrev nk:=@PySem.wpAny_mono
abbrev nq:=@List.getElem?_replicate
abbrev nr:=@Function.comp_def
abbrev nt:=@PyProof.Rows.callWith_type1
abbrev nu:=@List.map_append
abbrev nv:=@PySem.sizeLine_eq
abbrev ny:=@List.take_of_length_le
abbrev nz:=@List.length_drop
abbrev p0:=@Nat.zero_le
abbrev p6:=@List.length_zip
abbrev p7:=@PySem.wpAny_truthy_bool
abbrev p8:=@List.replicate_succ
abbrev p9:=@List.idxOf_lt_length_of_mem
abbrev pb:=@Int.emod_lt_of_pos
abbrev pd:=@if_true
abbrev pf:=@Nat.lt_irrefl
abbrev ph:=@PySem.F.called_set
abbrev pj:=@List.map_id'
abbrev pk:=@Array.length_toList
abbrev pq:=@PySem.mem_of_lookup
abbrev pw:=@PySem.wpAny_getItem_str_slice
abbrev pz:=@PySem.wpAny_holding
abbrev t4:=@List.append_nil
abbrev t5:=@Nat.not_lt_zero
abbrev t6:=@Int.emod_nonneg
abbrev t7:=@List.length_nil
abbrev t8:=@Nat.mod_lt
abbrev t9:=@of_decide_eq_true
abbrev td:=@List.cons.sizeOf_spec
abbrev tf:=@Nat.min_self
abbrev tm:=@PySem.F.called_tuple
abbrev tq:=@PySem.call_meets
abbrev tu:=@PySem.F.slot_tuple_mul
abbrev tw:=@List.nodup_iff_pairwise_ne
abbrev tx:=@PySem.wpAny_passesOwn
abbrev u3:=@List.drop_eq_getElem_cons
abbrev u4:=@List.foldl_cons
abbrev u5:=@List.nil_append
abbrev u6:=@Nat.le_of_lt
abbrev u7:=@PySem.codeAny_mono
abbrev u9:=@Option.isSome_iff_exists
abbrev ua:=@PySem.F.args_tuple_add_2
abbrev ub:=@PySem.AutoSeq1.sub_tuple_tuple
abbrev uc:=@List.drop_zero
abbrev ud:=@PySem.F.entry_tuple_add
abbrev ue:=@List.getElem?_cons_succ
abbrev uf:=@PyProof.Rows.F.plain_set_update_loop
abbrev ug:=@List.getElem?_cons_zero
abbrev uh:=@List.getElem?_set
abbrev ui:=@PySem.F.plain_list_iadd
abbrev uj:=@PySem.F.plain_tuple_new
abbrev uk:=@List.length_range
abbrev um:=@List.pairwise_map
abbrev uo:=@PySem.F.slot_tuple_add
abbrev uq:=@PySem.F.plainAttrs_str
abbrev ur:=@PySem.plainId_quiet
abbrev uv:=@Option.join_some
abbrev uw:=@List.not_mem_nil
abbrev ux:=@List.cons_append
abbrev uy:=@Nat.ne_of_gt
abbrev uz:=@Bool.eq_iff_iff
abbrev g00:=@List.nodup_cons
abbrev g01:=@List.of_mem_zip
abbrev g02:=@PySem.wpAny_typeOf
abbrev g03:=@List.map_nil
abbrev g04:=@PySem.typeIs_str
abbrev g05:=@PySem.codeAny_call_builtin
abbrev g06:=@Bool.or_eq_true
abbrev g07:=@PySem.wpAny_ite_false
abbrev g08:=@PySem.post_val_or_str
abbrev g09:=@PySem.PassesOwn.never
abbrev g0a:=@List.mem_of_mem_take
abbrev g0b:=@List.eq_nil_of_length_eq_zero
abbrev g0c:=@beq_eq_false_iff_ne
abbrev g0d:=@List.filterMap_cons
abbrev g0e:=@ne_true_of_eq_false
abbrev g0f:=@List.map_eq_nil_iff
abbrev g0g:=@if_false
abbrev g0h:=@PySem.Heap.size_push
abbrev g0i:=@PySem.F.slot_dict_setdefault
abbrev g0j:=@Nat.le_succ
abbrev g0k:=@PySem.wpAny_Call_Name_kw
abbrev g0l:=@Bool.false_eq_true
abbrev g0m:=@PySem.F.attrBase_ValueError
abbrev g0n:=@PySem.F.args_tuple_mul_2
abbrev g0o:=@PySem.F.args_str_split_2
abbrev g0p:=@Option.some.injEq
abbrev g0q:=@PySem.wpAny_pyIter_list
abbrev g0r:=@decide_eq_true_eq
abbrev g0s:=@PySem.F.entry_tuple_mul
abbrev g0t:=@PySem.F.entry_str_split
abbrev g0u:=@List.foldl_append
abbrev g0v:=@List.ext_getElem?
abbrev g0w:=@List.nodup_append
abbrev g0x:=@beq_iff_eq
abbrev g0y:=@List.getElem?_take_of_lt
abbrev g0z:=@PySem.concat_meets
abbrev g10:=@PySem.noFill_tuple_add
abbrev g11:=@List.drop_length
abbrev g12:=@Nat.lt_succ_self
abbrev g13:=@PySem.AutoSeq1.idx_int
abbrev g14:=@PySem.F.slot_str_split
abbrev g15:=@PySem.Txt.slice_le
abbrev g16:=@List.any_eq_true
abbrev g17:=@decide_eq_decide
abbrev g18:=@List.Pairwise.imp_of_mem
abbrev g19:=@List.getElem_mem
abbrev g1a:=@List.mem_flatten
abbrev g1b:=@PySem.wpAny_execs_nil
abbrev g1c:=@PySem.SeqAt.EqAt.same
abbrev g1d:=@PySem.W.kia_one
abbrev g1e:=@PySem.codeAny_of_tree
abbrev g1f:=@List.cons.injEq
abbrev g1g:=@PySem.W.cellsFrom_some
abbrev g1h:=@List.range_succ_eq_map
abbrev g1i:=@List.sum_replicate_nat
abbrev g1j:=@List.append_eq_nil_iff
abbrev g1k:=@List.length_replicate
abbrev g1l:=@Option.some_or
abbrev g1m:=@Nat.succ_mul
namespace L2
open PySem PySem.Spec PyProof.Rows
abbrev Key:=Sum Int Str
def q47:Key->Value->Bool
 | .inl k,v=>Value.isInt k v
 | .inr x,v=>Value.isStrOf x v
def qkm(w:World): Key->Int
 | .inl k=>hashInt k
 | .inr x=>hashStr w x
theorem j8:∀ {k:Key} {v:Value},q47 k v=true->(∃i t,k=Sum.inl i/\v=Value.int i t)\/(∃x t,k=Sum.inr x/\v=Value.str x t)
 | .inl i,v,h=>by
  obtain⟨t,e⟩:=Value.isInt_shape (k:=i) (v:=v) h;exact .inl ⟨i,t,rfl,e⟩
 | .inr x,v,h=>by
  obtain⟨t,e⟩:=Value.isStrOf_shape (x:=x) (v:=v) h;exact .inr ⟨x,t,rfl,e⟩
theorem qbr(x:Str)(t:Tok): q47 (.inr x) (.str x t)=true:=by simp [q47,Value.isStrOf]
theorem qhg(a b:Int): decide ((Sum.inl a:Key)=Sum.inl b)=(a==b):=by
 by_cases e:a=b
 ·subst e;simp
 ·have h:¬(Sum.inl a:Key)=Sum.inl b:=fun q=>e (Sum.inl.inj q)
  rw [m8 h];exact(g0c.mpr e).symm
theorem qhh(a b:Str): decide ((Sum.inr a:Key)=Sum.inr b)=decide (a=b):=by
 by_cases e:a=b
 ·subst e;simp
 ·have h:¬(Sum.inr a:Key)=Sum.inr b:=fun q=>e (Sum.inr.inj q)
  rw [m8 h,m8 e]
theorem qhi(a:Int)(b:Str): decide ((Sum.inl a:Key)=Sum.inr b)=false:=m8 (fun q=>nomatch q)
theorem qhj(a:Str)(b:Int): decide ((Sum.inr a:Key)=Sum.inl b)=false:=m8 (fun q=>nomatch q)
def mixKind(prog:Program)(w:World): PySem.KeyKind prog w Key where
 is:=q47
 hash:=qkm w
 inj:=fun v a b ha hb=>by
  rcases j8 ha with⟨i,t,rfl,rfl⟩|⟨x,t,rfl,rfl⟩
  ·rcases j8 hb with⟨j,u,rfl,e⟩|⟨y,u,rfl,e⟩
   ·injection e with e1 _;rw [e1]
   ·exact nomatch e
  ·rcases j8 hb with⟨j,u,rfl,e⟩|⟨y,u,rfl,e⟩
   ·exact nomatch e
   ·injection e with e1 _;rw [e1]
 byValue:=fun k v h=>by
  rcases j8 h with⟨i,t,rfl,rfl⟩|⟨x,t,rfl,rfl⟩ <;> rfl
 pyHash:=fun hv h=>by
  rcases j8 hv with⟨i,t,rfl,rfl⟩|⟨x,t,rfl,rfl⟩
  ·exact wpAny_pyHash_int h
  ·exact wpAny_pyHash_str h
 eqBool:=fun hu hv h=>by
  rcases j8 hu with⟨i,t,rfl,rfl⟩|⟨x,t,rfl,rfl⟩
  ·rcases j8 hv with⟨j,u,rfl,rfl⟩|⟨y,u,rfl,rfl⟩
   ·rw [qhg] at h;exact wpAny_eqBool_int h
   ·rw [qhi] at h;exact SeqAt.EqAt.int_str i t y u _ _ _ _ h
  ·rcases j8 hv with⟨j,u,rfl,rfl⟩|⟨y,u,rfl,rfl⟩
   ·rw [qhj] at h;exact SeqAt.EqAt.str_int x t j u _ _ _ _ h
   ·rw [qhh] at h;exact wpAny_eqBool_str h
 «strs» :=fun k x t v h=>by
  rcases j8 h with⟨i,u,rfl,e⟩|⟨y,u,rfl,e⟩
  ·exact nomatch e
  ·injection e with e1 _
   subst e1;cases v <;> rfl
theorem q3f(prog:Program)(w:World)(x:Str)(t:Tok): (mixKind prog w).is (.inr x) (.str x t)=true:=qbr x t
inductive V where
 | non|bl (b:Bool)|int (i:Int)|str (x:Str)|byt (b:Array UInt8)|flt (b:UInt64)|ref (a:Addr)|ty (n:String)
 deriving DecidableEq
def RelV:V->Value->Prop
 | .non,u=>u=Value.none
 | .bl b,u=>u=Value.bool b
 | .int i,u=>∃t,u=Value.int i t
 | .str x,u=>∃t,u=Value.str x t
 | .byt b,u=>∃t,u=Value.bytes b t
 | .flt b,u=>∃t,u=Value.float b t
 | .ref a,u=>u=Value.ref a
 | .ty n,u=>u=Value.type n
abbrev Vals:List V->List Value->Prop:=Paired RelV
theorem Vals.length{xs:List V}{us:List Value}(r:Vals xs us): xs.length=us.length:=Paired.length r
theorem Vals.get:∀ {xs:List V} {us:List Value} {i:Nat} {x:V},Vals xs us->xs[i]? = some x->∃u,us[i]? = some u/\RelV x u
 | _,_,_,_,.nil,e=>by simp at e
 | _,_,0,_,.cons r _,e=>by simp at e;subst e;exact⟨_,rfl,r⟩
 | _,_,i+1,x,.cons _ t,e=>by
  obtain⟨u,h1,h2⟩:=Vals.get (i:=i) (x:=x) t (by simpa using e);exact⟨u,by simpa using h1,h2⟩
theorem Vals.append:∀ {xs ys:List V} {us ws:List Value},Vals xs us->Vals ys ws->Vals (xs++ys) (us++ws)
 | _,_,_,_,.nil,s=>s
 | _,_,_,_,.cons r t,s=>.cons r (Vals.append t s)
theorem Vals.take:∀ {xs:List V} {us:List Value} (n:Nat),Vals xs us->Vals (xs.take n) (us.take n)
 | _,_,0,_=>.nil
 | _,_,_+1,.nil=>.nil
 | _,_,n+1,.cons r t=>.cons r (Vals.take n t)
theorem Vals.drop:∀ {xs:List V} {us:List Value} (n:Nat),Vals xs us->Vals (xs.drop n) (us.drop n)
 | _,_,0,r=>r
 | _,_,_+1,.nil=>.nil
 | _,_,n+1,.cons _ t=>Vals.drop n t
def qdo:Option V->Option Value->Prop
 | some v,some u=>RelV v u
 | none,none=>True
 | _,_=>False
def KV{κ : Type}: List (κ × V)->List (κ × Value)->Prop:=Paired fun(p : κ × V) (q : κ × Value)=>p.1=q.1/\RelV p.2 q.2
def kV:Key->V
 | .inl i=>.int i
 | .inr x=>.str x
inductive HO where
 /-- a list -/
 | lst (xs:List V)
 /-- a tuple (never changes) -/
 | tup (xs:List V)
 /-- a dict whose keys are ints and texts; one whose keys are tuples of ints and texts (the empty one is both) -/
 | dK (kvs:List (Key×V))|dT (kvs:List (List Key×V))
 /-- a set of ints: its members, its size -/
 | set (S:Int->Bool) (n:Nat)
 /-- an instance of the class at C, its dict at dx, its attributes -/
 | ins (C dx:Addr) (fs:List (Str×V))
 /-- the dict of the instance at x -/
 | own (x:Addr)
 /-- the dict of an exception -/
 | xd (fs:List (Str×V))
 /-- a bound method, f of x -/
 | met (f x:Addr)
 /-- a range object lo, lo + 1, .. below hi -/
 | rng (lo hi:Int)
 /-- a thing that is known to the object (the script; a dict while a loop walks it): read, never written while it is so -/
 | frz (o:Obj) (u:HO)
 /-- a code object's table -/
 | tbl (ps:Array Value)
 /-- any other thing, by what is true of its one object (a def of one's own: SetO a S n := HO.ext fun h => ..) -/
 | ext (φ : Heap->Prop)
abbrev Hp:=Addr->Option HO
def upd(H:Hp)(a:Addr)(o:HO): Hp:=fun b=>if b=a then some o else H b
theorem qw{H:Hp}{a:Addr}{o:HO}: upd H a o a=some o:=by unfold upd;rw [gu rfl]
theorem ql{H:Hp}{a b:Addr}{o:HO}(h:b≠a): upd H a o b=H b:=by unfold upd;rw [mf h]
theorem jh{H:Hp}{a b:Addr}{o:HO}(h:H a=some o)(h':H b=none): a≠b:=by
 intro e;subst e;rw [h] at h';cases h'
def TupX(h:Heap)(a:Addr)(items:Array Value): Prop:=∃o,h.get? a=some o/\o.cls=.type "tuple" /\ o.dict=none/\∃n,o.data=.seq items n
theorem TupX.up{h:Heap}{a:Addr}{items:Array Value}(p:TupX h a items): IsTup h a items:=let⟨o,x,y,_,z⟩:=p; ⟨o,x,y,z⟩
theorem TupX.new(h:Heap)(items:Array Value): TupX (h.push {cls:=.type "tuple",data:=.seq items}) h.objs.size items:=⟨_,m4 _ rfl,rfl,rfl,_,rfl⟩
section
variable(P:Program)(w:World)
def ObjOk(H:Hp)(h:Heap)(a:Addr): HO->Prop
 | .lst xs=>xs.length<=sizeLine/\∃(its:List Value) (n:Nat),Vals xs its/\h.get? a=some {cls:=.type "list",data:=.seq its.toArray n}
 | .tup xs=>xs.length<=sizeLine/\∃its:List Value,Vals xs its/\TupX h a its.toArray
 | .dK kvs=>kvs.length<=sizeLine/\(a==sysModules)=false/\∃vs,KV kvs vs/\h.DictOf (mixKind P w) a vs
 | .dT kvs=>kvs.length<=sizeLine/\(a==sysModules)=false/\∃xs:List (List Key×Addr×Value),
   Paired (fun(p:List Key×V) (q:List Key×Addr×Value)=>p.1=q.1/\H q.2.1=some (.tup (p.1.map kV))/\RelV p.2 q.2.2) kvs xs /\
   ∃o es ep,h.get? a=some o/\o.ExactDict/\o.data=.dict es ep/\es.toList=xs.map (entryOfKey (tupleKind (mixKind P w)))/\(xs.map (·.1)).Nodup
 | .set S n=>h.SetOf (intKind P w) a S n
 | .ins C dx fs=>H dx=some (.own a)/\fs.length<=1000/\dx≠a/\h.get? a=some (PySem.W.instObj C dx) /\
   ∃mA,h.Ns1 dx mA/\(∀f,qdo (fs.lookup f) (mA f))/\PySem.Within mA (fs.map (·.1))
 | .own _=>∃o,h.get? a=some o
 | .xd fs=>∃mA,h.Ns1 a mA/\∀f,qdo (fs.lookup f) (mA f)
 | .rng lo hi=>∃t u v,h.get? a=some {cls:=.type "range",data:=.fields #[.int lo t,.int hi u,.int 1 v]}
 | .frz o u=>h.get? a=some o/\ObjOk H h a u
 | .tbl ps=>h.get? a=some {cls:=.none,data:=.fields ps}
 | .met f x=>h.get? a=some (PySem.W.methodObj (.ref f) (.ref x))
 | .ext φ => φ h/\(∃o,h.get? a=some o)/\∀h1 h2:Heap, φ h1->(∀o,h1.get? a=some o->h2.get? a=some o) -> φ h2
def HOk(H:Hp)(h:Heap): Prop:=∀a o,H a=some o->ObjOk P w H h a o
end
section
variable{P:Program}{w:World}{H H':Hp}{h h':Heap}{a:Addr}{o:HO}
theorem ObjOk.lt(x:ObjOk P w H h a o): a<h.objs.size:=by
 cases o with
 | lst xs=>obtain⟨_,_,_,_,e⟩:=x;exact gp e
 | tup xs=>obtain⟨_,_,_,p⟩:=x;exact p.up.lt
 | dK kvs=>obtain⟨_,_,_,_,o,_,_,e,_⟩:=x;exact gp e
 | dT kvs=>obtain⟨_,_,_,_,o,_,_,e,_⟩:=x;exact gp e
 | set S n=>obtain⟨o,_,_,_,e,_⟩:=x;exact gp e
 | ins C dx fs=>obtain⟨_,_,_,e,_⟩:=x;exact gp e
 | own y=>obtain⟨_,e⟩:=x;exact gp e
 | xd fs=>obtain⟨_,⟨_,_,_,e,_⟩,_⟩:=x;exact gp e
 | rng lo hi=>obtain⟨_,_,_,e⟩:=x;exact gp e
 | frz ob u=>obtain⟨e,_⟩:=x;exact gp e
 | tbl ps=>exact gp (show h.get? a=some _ from x)
 | met f y=>exact gp (show h.get? a=some _ from x)
 | ext φ =>obtain⟨_,⟨_,e⟩,_⟩:=x;exact gp e
theorem Paired.mapP{α β : Type}{F G : α -> β -> Prop}: ∀ {l₁:List α} {l₂:List β},Paired F l₁ l₂->(∀a b,F a b->G a b)->Paired G l₁ l₂
 | _,_,.nil,_=>.nil
 | _,_,.cons r t,f=>.cons (f _ _ r) (Paired.mapP t f)
theorem ObjOk.stay(x:ObjOk P w H h a o)(k:∀b u,(b=a\/H b=some (.own a))->h.get? b=some u->h'.get? b=some u)
  (ho:∀b,H b=some (.own a)->H' b=some (.own a)) (ht:∀b xs,H b=some (.tup xs)->H' b=some (.tup xs)):ObjOk P w H' h' a o:=by
 induction o with
 | lst xs=>obtain⟨z,its,n,r,e⟩:=x;exact⟨z,its,n,r,k _ _ (.inl rfl) e⟩
 | tup xs=>obtain⟨z,its,r,ob,e,c⟩:=x;exact⟨z,its,r,ob,k _ _ (.inl rfl) e,c⟩
 | dK kvs=>obtain⟨z,y,vs,r,ob,es,ep,e,c⟩:=x;exact⟨z,y,vs,r,ob,es,ep,k _ _ (.inl rfl) e,c⟩
 | dT kvs=>
  obtain⟨z,y,xs,r,ob,es,ep,e,c⟩:=x;exact⟨z,y,xs,Paired.mapP r fun p q z=>⟨z.1,ht _ _ z.2.1,z.2.2⟩,ob,es,ep,k _ _ (.inl rfl) e,c⟩
 | set S n=>obtain⟨ob,es,ep,t,e,c⟩:=x;exact⟨ob,es,ep,t,k _ _ (.inl rfl) e,c⟩
 | ins C dx fs=>
  obtain⟨d,z,ne,e,mA,⟨od,es,ep,e2,c⟩,r⟩:=x;exact⟨ho _ d,z,ne,k _ _ (.inl rfl) e,mA,⟨od,es,ep,k _ _ (.inr d) e2,c⟩,r⟩
 | own y=>obtain⟨ob,e⟩:=x;exact⟨ob,k _ _ (.inl rfl) e⟩
 | xd fs=>obtain⟨mA,⟨od,es,ep,e,c⟩,r⟩:=x;exact⟨mA,⟨od,es,ep,k _ _ (.inl rfl) e,c⟩,r⟩
 | rng lo hi=>obtain⟨t,u,v,e⟩:=x;exact⟨t,u,v,k _ _ (.inl rfl) e⟩
 | frz ob u ih=>obtain⟨e,q⟩:=x;exact⟨k _ _ (.inl rfl) e,ih q⟩
 | tbl ps=>
  have e:h.get? a=some {cls:=.none,data:=.fields ps}:=x;show h'.get? a=some {cls:=.none,data:=.fields ps};exact k a _ (.inl rfl) e
 | met f y=>
  have e:h.get? a=some (PySem.W.methodObj (.ref f) (.ref y)):=x;show h'.get? a=some (PySem.W.methodObj (.ref f) (.ref y));exact k a _ (.inl rfl) e
 | ext φ =>obtain⟨p,⟨o,e⟩,st⟩:=x;exact⟨st _ _ p fun o q=>k _ _ (.inl rfl) q,⟨o,k _ _ (.inl rfl) e⟩,st⟩
theorem HOk.lt(x:HOk P w H h)(e:H a=some o): a<h.objs.size:=(x a o e).lt
theorem HOk.fresh(x:HOk P w H h)(e:h.objs.size<=a): H a=none:=by
 cases q:H a with
 | none=>rfl
 | some u=>exact absurd (gw (x.lt q) e) (pf _)
theorem HOk.kept(x:HOk P w H h)(k:∀b u,h.get? b=some u->h'.get? b=some u): HOk P w H h':=fun a o e=>
 (x a o e).stay (fun b u _ q=>k b u q) (fun _ q=>q) fun _ _ q=>q
theorem HOk.laid(x:HOk P w H h)(k:∀b u,h.get? b=some u->h'.get? b=some u)(hp:h.objs.size<=a)(new:ObjOk P w (upd H a o) h' a o): HOk P w (upd H a o) h':=fun b u e=>by
 have hn:=x.fresh hp
 by_cases hb:b=a
 ·subst hb;rw [qw] at e;cases e;exact new
 ·rw [ql hb] at e
  exact(x b u e).stay (fun c v _ q=>k c v q) (fun c q=>by rw [ql (jh q hn)];exact q) fun c xs q=>by rw [ql (jh q hn)];exact q
end
def Rd(H:Hp)(a:Addr)(u:HO): Prop:=H a=some u\/∃o,H a=some (.frz o u)
theorem Rd.ok{P:Program}{w:World}{H:Hp}{h:Heap}{a:Addr}{u:HO}(r:Rd H a u)(x:HOk P w H h): ObjOk P w H h a u:=by
 rcases r with r|⟨o,r⟩
 ·exact x a u r
 ·obtain⟨_,q⟩:=x a _ r
  exact q
def Mut:Option HO->Prop
 | some (.lst _)=>True
 | some (.dK _)=>True
 | some (.dT _)=>True
 | some (.set _ _)=>True
 | some (.ins _ _ _)=>True
 | some (.ext _)=>True
 | _=>False
section
variable{P:Program}{w:World}{H:Hp}{h h':Heap}{x e:Addr}{o':HO}
theorem HOk.write(ok:HOk P w H h)(mu:Mut (H x))(he:e=x\/H e=some (.own x))(k:∀b u,b≠e->h.get? b=some u->h'.get? b=some u)(heo:∃u,h'.get? e=some u)
  (new:ObjOk P w (upd H x o') h' x o'):HOk P w (upd H x o') h':=fun b u q=>by
 have nown:∀c y,H c=some (.own y)->c≠x:=fun c y r z=>by subst z;rw [r] at mu;exact mu
 have ntup:∀c xs,H c=some (.tup xs)->c≠x:=fun c xs r z=>by subst z;rw [r] at mu;exact mu
 by_cases hb:b=x
 ·subst hb;rw [qw] at q;cases q;exact new
 ·rw [ql hb] at q
  by_cases hbe:b=e
  ·have q':H b=some (.own x):=by
    rcases he with z|z
    ·exact absurd (hbe.trans z) hb
    ·rw [hbe];exact z
   rw [q] at q';cases q';obtain⟨v,hv⟩:=heo;exact⟨v,by rw [hbe];exact hv⟩
  ·refine(ok b u q).stay (fun c v hc r=>k c v ?_ r) (fun c r=>by rw [ql (nown c b r)];exact r) fun c xs r=>by rw [ql (ntup c xs r)];exact r
   rcases hc with rfl|hc
   ·exact hbe
   ·rintro rfl
    rcases he with z|z
    ·exact nown c b hc z
    ·rw [hc] at z;cases z;exact hb rfl
end
structure Un(fs ex:List Addr)(H H':Hp)(h h':Heap): Prop where
 keep:∀b o,h.get? b=some o->H b=none->b∉fs->b∉ex->h'.get? b=some o
 slot:∀b o,h.get? b=some o->H b=none->b∈fs->b∉ex->∃sl,h'.get? b=some {o with slots:=sl}
 free:∀b o,h.get? b=some o->H b=none->b∉ex->H' b=none
 there:∀b o,h.get? b=some o->b∉ex->∃o',h'.get? b=some o'
 tups:∀b xs,H b=some (.tup xs)->H' b=some (.tup xs)
 frzs:∀b o u,H b=some (.frz o u)->H' b=some (.frz o u)
 tbls:∀b ps,H b=some (.tbl ps)->∃more,H' b=some (.tbl (ps++more))
section
variable{fs fs' ex ex':List Addr}{H H1 H2:Hp}{h h1 h2 h':Heap}{a x e:Addr}{o:HO}
theorem Un.any(u:Un fs ex H H1 h h1){b:Addr}{ob:Obj}(q:h.get? b=some ob)(n:H b=none)(hx:b∉ex): ∃sl,h1.get? b=some {ob with slots:=sl}:=by
 by_cases hb:b∈fs
 ·exact u.slot b ob q n hb hx
 ·exact⟨ob.slots,u.keep b ob q n hb hx⟩
theorem Un.trans(a:Un fs ex H H1 h h1)(b:Un fs ex H1 H2 h1 h2): Un fs ex H H2 h h2 where
 keep:=fun c ob q n hc hx=>b.keep c ob (a.keep c ob q n hc hx) (a.free c ob q n hx) hc hx
 slot:=fun c ob q n hc hx=>by
  obtain⟨sl,e1⟩:=a.slot c ob q n hc hx;obtain⟨sl',e2⟩:=b.slot c _ e1 (a.free c ob q n hx) hc hx;exact⟨sl',e2⟩
 free:=fun c ob q n hx=>by
  obtain⟨o',e1⟩:=a.there c ob q hx;exact b.free c o' e1 (a.free c ob q n hx) hx
 there:=fun c ob q hx=>by
  obtain⟨o',e1⟩:=a.there c ob q hx;exact b.there c o' e1 hx
 tups:=fun c xs q=>b.tups c xs (a.tups c xs q)
 frzs:=fun c ob xs q=>b.frzs c ob xs (a.frzs c ob xs q)
 tbls:=fun c ps q=>by
  obtain⟨m1,e1⟩:=a.tbls c ps q;obtain⟨m2,e2⟩:=b.tbls c _ e1;exact⟨m1++m2,by rw [e2,Array.append_assoc]⟩
theorem Un.kept(k:∀b u,h.get? b=some u->h'.get? b=some u): Un fs ex H H h h':=
 ⟨fun b ob q _ _ _=>k b ob q,fun b ob q _ _ _=>⟨ob.slots,k b ob q⟩,fun _ _ _ n _=>n,fun b ob q _=>⟨ob,k b ob q⟩,fun _ _ q=>q,fun _ _ _ q=>q,fun _ ps q=>⟨#[],by rw [q];simp⟩⟩
theorem Un.refl:Un fs ex H H h h:=Un.kept fun _ _ q=>q
theorem Un.laid(k:∀b u,h.get? b=some u->h'.get? b=some u)(hp:h.objs.size<=a)(hn:H a=none): Un fs ex H (upd H a o) h h' where
 keep:=fun b u q _ _ _=>k b u q
 slot:=fun b u q _ _ _=>⟨u.slots,k b u q⟩
 free:=fun b u q n _=>by rw [ql (mh (gw (gp q) hp))];exact n
 there:=fun b u q _=>⟨u,k b u q⟩
 tups:=fun b xs q=>by rw [ql (jh q hn)];exact q
 frzs:=fun b u xs q=>by rw [ql (jh q hn)];exact q
 tbls:=fun b ps q=>⟨#[],by rw [ql (jh q hn),q];simp⟩
theorem Un.write(mu:Mut (H x))(he:e=x\/H e=some (.own x))(k:∀b u,b≠e->h.get? b=some u->h'.get? b=some u)(heo:∃u,h'.get? e=some u): Un fs ex H (upd H x o) h h':=by
 have hx:∀b,H b=none->b≠x:=fun b n z=>by subst z;rw [n] at mu;exact mu
 have hb:∀b,H b=none->b≠e:=fun b n z=>by
  subst z;rcases he with r|r
  ·exact hx b n r
  ·rw [n] at r;cases r
 have hm:∀b u,H b=some u->¬Mut (some u)->b≠x:=fun b u q nm z=>by subst z;rw [q] at mu;exact nm mu
 refine⟨fun b u q n _ _=>k b u (hb b n) q,fun b u q n _ _=>⟨u.slots,k b u (hb b n) q⟩,fun b u q n _=>by rw [ql (hx b n)];exact n,fun b u q _=>?_,
  fun b xs q=>by rw [ql (hm b _ q fun z=>z)];exact q,fun b u xs q=>by rw [ql (hm b _ q fun z=>z)];exact q,fun b ps q=>⟨#[],by rw [ql (hm b _ q fun z=>z),q];simp⟩⟩
 by_cases hbe:b=e
 ·subst hbe;exact heo
 ·exact⟨u,k b u hbe q⟩
end
def trk(h:Heap)(H:Hp): List Addr:=(List.range h.objs.size).filter fun a=>(H a).isSome
def q1g(h:Heap)(H:Hp): Heap:=PySem.W.hideAll h (trk h H)
theorem qbs(h:Heap)(H:Hp): (q1g h H).objs.size=h.objs.size:=PySem.W.hideAll_size _ _
theorem qdp{h:Heap}{H:Hp}{b:Addr}{o:Obj}(e:h.get? b=some o)(n:H b=none): (q1g h H).get? b=some o:=
 PySem.W.hideAll_get _ e fun hm=>by
  have q:(H b).isSome=true:=(List.mem_filter.mp hm).2;rw [n] at q;simp at q
theorem qfr{h:Heap}{H:Hp}{b:Addr}{o:Obj}(e:(q1g h H).get? b=some o): h.get? b=some o/\H b=none:=by
 have e':h.get? b=some o:=PySem.W.of_hideAll (trk h H) e;refine⟨e',?_⟩;cases q:H b with
 | none=>rfl
 | some x=>
  have hm:b∈trk h H:=List.mem_filter.mpr ⟨n0.mpr (gp e'),by simp [q]⟩;have z:(q1g h H).get? b=none:=PySem.W.hideAll_none (trk h H) hm;rw [z] at e;cases e
def qfs(g h:Heap)(L:Addr): List (Addr×Obj):=(List.range h.objs.size).filterMap fun a=>if a=L\/(g.get? a).isSome=true then none else(h.get? a).map fun o=>(a,o)
def rest(g h:Heap)(L d:Addr): List (Addr×Obj):=(qfs g h L).filter fun p=>decide (p.1≠d)
structure Mod(K:PySem.W.Frag)(mg:Str->Option Value)(base:Heap): Prop where
 kin:K.In base
 glob:base.Ns mainGlobals mg
 blt:∃mb,base.Ns builtinsNs mb/\∀x:Str,x≠"__name__" -> mb x=bootBuiltins x
 nolimit:base.NoLimit
structure Cx where
 prog:Program
 w:World
 K:PySem.W.Frag
 mg:Str->Option Value
 base:Heap
 A:Around
 N:List Str
 s₀:Shared
 H₀:Hp
 env:Env
 outer:List Env
 stack:List Env
 ex:List Addr
 fn:Str->Bool
 calm:Bool
 pn:List (Addr×Obj)
 xe:Value->Shared->Prop
def frs(l:List Env): List Addr:=l.filterMap (·.frame)
abbrev Cx.fs(X:Cx): List Addr:=frs X.outer
def Vis(sc:Scope)(x:Str): Prop:=sc.names.lookup x=some .local\/sc.names.lookup x=some .cell\/sc.names.lookup x=some .free
def Loc(sc:Scope)(x:Str): Prop:=sc.names.lookup x=some .local\/sc.names.lookup x=some .cell
def Look(env:Env)(h:Heap)(m:Str->Option Value)(x:Str)(u:Value): Prop:=
 (env.kindOf x=some .local/\m x=some u)\/((env.kindOf x=some .cell\/env.kindOf x=some .free)/\∃c,env.cells.lookup x=some c/\h.IsCell c (some u))
structure Cx.Ok(X:Cx): Prop where
 mod:Mod X.K X.mg X.base
 kind:X.env.scope.kind=.function
 glob:X.env.globals=mainGlobals
 blt:X.env.builtins=builtinsNs
 above:X.s₀.heap.objs.size<=X.env.locals
 inj:∀x y c,X.env.cells.lookup x=some c->X.env.cells.lookup y=some c->x=y
 has:∀x,(X.env.kindOf x=some .cell\/X.env.kindOf x=some .free)->∃c,X.env.cells.lookup x=some c
 cab:∀x c,X.fn x=true->X.env.cells.lookup x=some c->X.s₀.heap.objs.size<=c
 hd:X.calm=true->X.A.handled=none
 frames:X.A.frames=some X.stack
 stk:X.stack=X.outer\/(X.stack=X.env :: X.outer/\X.env.frame=some X.env.locals)
 exf:∀b∈X.ex,b≠X.env.locals/\∀x c,X.env.cells.lookup x=some c->c≠b
 bs:∀b o,X.base.get? b=some o->X.s₀.heap.get? b=some o/\X.H₀ b=none
 bsz:X.base.objs.size<=X.s₀.heap.objs.size
 noex:∀b o,X.base.get? b=some o->b∉X.ex
 exfs:∀b∈X.ex,b∉X.fs
 funs:X.s₀.heap.FunFrames X.base X.outer
 frf:∀b∈X.fs,X.H₀ b=none
structure Inv(X:Cx)(pins:List (Addr×Obj))(σ : List (Option V))(H:Hp)(s:Shared): Prop where
 ok:X.Ok
 os:s.os=X.s₀.os
 bare:AllBare s.gens
 base:Un X.fs X.ex X.H₀ H X.s₀.heap s.heap
 loc:∃m,s.heap.Ns X.env.locals m/\∀(i:Nat) (x:Str) (v:V),X.N[i]? = some x -> σ[i]? = some (some v)->Vis X.env.scope x->∃u,RelV v u/\Look X.env s.heap m x u
 cell:∀x c,X.env.cells.lookup x=some c->∃v,s.heap.IsCell c v
 free:H X.env.locals=none
 freeC:∀x c,X.env.cells.lookup x=some c->H c=none
 pin:∀p∈X.pn++pins,s.heap.get? p.1=some p.2/\H p.1=none/\p.1≠X.env.locals/\p.1∉X.fs/\∀v,p.2.data ≠ .cell v
 hok:HOk X.prog X.w H s.heap
 len : σ.length=X.N.length
section
variable{X:Cx}{pins:List (Addr×Obj)}{σ : List (Option V)}{H H':Hp}{s:Shared}{h':Heap}
theorem Cx.Ok.nofr(ok:X.Ok){b:Addr}{o:Obj}(e:X.base.get? b=some o): b∉X.fs:=fun hb=>by
 have:=(ok.funs.mem hb).1;rw [e] at this;cases this
theorem Inv.bs(I:Inv X pins σ H s): ∀b o,X.base.get? b=some o->s.heap.get? b=some o/\H b=none:=fun b o e=>
 ⟨I.base.keep b o (I.ok.bs b o e).1 (I.ok.bs b o e).2 (I.ok.nofr e) (I.ok.noex b o e),I.base.free b o (I.ok.bs b o e).1 (I.ok.bs b o e).2 (I.ok.noex b o e)⟩
theorem Inv.bk(I:Inv X pins σ H s): ∀b o,X.base.get? b=some o->s.heap.get? b=some o:=fun b o e=>(I.bs b o e).1
theorem Inv.mod(I:Inv X pins σ H s): Mod X.K X.mg X.base:=I.ok.mod
theorem Inv.kIn(I:Inv X pins σ H s): X.K.In s.heap:=I.ok.mod.kin.keeps I.bk
theorem Inv.lt(I:Inv X pins σ H s): X.env.locals<s.heap.objs.size:=let⟨_,hn,_⟩:=I.loc;hn.lt
theorem Inv.sz(I:Inv X pins σ H s): X.s₀.heap.objs.size<=s.heap.objs.size:=ma I.ok.above (u6 I.lt)
theorem Inv.nofs(I:Inv X pins σ H s){a:Addr}(h:s.heap.objs.size<=a): a∉X.fs:=fun hb=>by
 obtain⟨_,o,ho,_⟩:=I.ok.funs.mem hb;exact absurd (gw (gp ho) (ma I.sz h)) (pf _)
theorem Inv.cne(I:Inv X pins σ H s): ∀x c,X.env.cells.lookup x=some c->c≠X.env.locals:=fun x c e z=>by
 obtain⟨v,o,ho,hd⟩:=I.cell x c e;obtain⟨m,⟨o',es,ep,ho',hd',_⟩,_⟩:=I.loc;rw [z,ho'] at ho;cases ho;rw [hd'] at hd;cases hd
theorem Inv.funs(I:Inv X pins σ H s): s.heap.FunFrames X.base X.outer:=by
 have all:∀(l:List Env),(∀b∈frs l,b∈X.fs)->X.s₀.heap.FunFrames X.base l->s.heap.FunFrames X.base l:=by
  intro l
  induction l with
  | nil=>intro _ _;trivial
  | cons env r ih=>
   intro hs hl;obtain⟨hk,⟨L,o,hf,hn,ho,hd⟩,hr⟩:=hl;have hL:L∈X.fs:=hs L (by unfold frs;rw [g0d,hf];exact gi);obtain⟨sl,e⟩:=I.base.slot L o ho (I.ok.frf L hL) hL fun z=>I.ok.exfs L z hL;exact⟨hk,⟨L,_,hf,hn,e,hd⟩,ih (fun b hb=>hs b (by unfold frs;rw [g0d,hf];exact gr _ hb)) hr⟩
 exact all X.outer (fun _ hb=>hb) I.ok.funs
theorem Inv.stack(I:Inv X pins σ H s): s.heap.FunFrames X.base X.stack:=by
 rcases I.ok.stk with e|⟨e,hf⟩
 ·rw [e];exact I.funs
 ·rw [e]
  obtain⟨m,hn,_⟩:=I.loc;refine .cons (by rw [I.ok.kind];decide) hf hn ?_ I.funs;exact Heap.get?_none_of_le (ma I.ok.bsz I.ok.above)
theorem Inv.stkSub(I:Inv X pins σ H s): ∀b∈frs X.stack,b∈X.env.locals :: X.fs:=fun b hb=>by
 rcases I.ok.stk with e|⟨e,hf⟩
 ·rw [e] at hb;exact gr _ hb
 ·rw [e] at hb
  unfold frs at hb;rw [g0d,hf] at hb;exact hb
theorem Inv.stkFree(I:Inv X pins σ H s): ∀b∈frs X.stack,H b=none:=fun b hb=>by
 rcases me.mp (I.stkSub b hb) with e|hb
 ·rw [e];exact I.free
 ·obtain⟨_,o,ho,_⟩:=I.ok.funs.mem hb
  exact I.base.free b o ho (I.ok.frf b hb) fun z=>I.ok.exfs b z hb
theorem Inv.step{g':Array GenState}{t':Nat}{d':Drawn}{ch:List Addr}(I:Inv X pins σ H s)
  (hch:∀b∈ch,(b∈X.ex\/X.s₀.heap.objs.size<=b)/\b≠X.env.locals/\(∀x c,X.env.cells.lookup x=some c->c≠b)/\∀p∈X.pn++pins,p.1≠b)
  (keep:∀b o,b≠X.env.locals->b∉X.fs->b∉ch->s.heap.get? b=some o->H b=none->h'.get? b=some o)
  (slot:∀b o,b≠X.env.locals->b∈X.fs->b∉ch->s.heap.get? b=some o->H b=none->∃sl,h'.get? b=some {o with slots:=sl}) (free:∀b o,b∉ch->s.heap.get? b=some o->H b=none->H' b=none)
  (there:∀b o,b∉ch->s.heap.get? b=some o->∃o',h'.get? b=some o')
  (tups:∀b xs,H b=some (.tup xs)->H' b=some (.tup xs)) (frzs:∀b o u,H b=some (.frz o u)->H' b=some (.frz o u)) (tbls:∀b ps,H b=some (.tbl ps)->∃more,H' b=some (.tbl (ps++more)))
  (ns:∀m,s.heap.Ns X.env.locals m->h'.Ns X.env.locals m) (hok:HOk X.prog X.w H' h') (hg:AllBare g') :
  Inv X pins σ H' {s with heap:=h',gens:=g',drawn:=d',toks:=t'}:=by
 have neL:∀b o,X.s₀.heap.get? b=some o->b≠X.env.locals:=fun b o e=>mh (gw (gp e) I.ok.above);have neC:∀b o,X.s₀.heap.get? b=some o->b∉X.ex->b∉ch:=fun b o e hx hb=>by
  rcases(hch b hb).1 with z|z
  ·exact hx z
  ·exact absurd (gw (gp e) z) (pf _)
 have cellK:∀x c,X.env.cells.lookup x=some c->∀v,s.heap.IsCell c v->h'.IsCell c v:=fun x c e v ⟨o,ho,hd⟩=>by
  have nch:c∉ch:=fun z=>(hch c z).2.2.1 x c e rfl
  by_cases hc:c∈X.fs
  ·obtain⟨sl,q⟩:=slot c o (I.cne x c e) hc nch ho (I.freeC x c e)
   exact⟨_,q,hd⟩
  ·exact⟨o,keep c o (I.cne x c e) hc nch ho (I.freeC x c e),hd⟩
 refine⟨I.ok,I.os,hg,⟨fun b o e n hb hx=>?_,fun b o e n hb hx=>?_,fun b o e n hx=>?_,fun b o e hx=>?_,fun b xs e=>tups b xs (I.base.tups b xs e),fun b o xs e=>frzs b o xs (I.base.frzs b o xs e),fun b ps e=>?_⟩,?_,fun x c e=>?_,?_,fun x c e=>?_,fun p hp=>?_,hok,I.len⟩
 ·exact keep b o (neL b o e) hb (neC b o e hx) (I.base.keep b o e n hb hx) (I.base.free b o e n hx)
 ·obtain⟨sl,e1⟩:=I.base.slot b o e n hb hx
  obtain⟨sl',e2⟩:=slot b _ (neL b o e) hb (neC b o e hx) e1 (I.base.free b o e n hx);exact⟨sl',e2⟩
 ·obtain⟨o',e1⟩:=I.base.there b o e hx
  exact free b o' (neC b o e hx) e1 (I.base.free b o e n hx)
 ·obtain⟨o',e1⟩:=I.base.there b o e hx
  exact there b o' (neC b o e hx) e1
 ·obtain⟨m1,e1⟩:=I.base.tbls b ps e
  obtain⟨m2,e2⟩:=tbls b _ e1;exact⟨m1++m2,by rw [e2,Array.append_assoc]⟩
 ·obtain⟨m,hn,hl⟩:=I.loc
  refine⟨m,ns m hn,fun i x v e1 e2 e3=>?_⟩;obtain⟨u,r,l⟩:=hl i x v e1 e2 e3;refine⟨u,r,?_⟩;rcases l with l|⟨k,c,e,z⟩
  ·exact .inl l
  ·exact .inr ⟨k,c,e,cellK x c e _ z⟩
 ·obtain⟨v,z⟩:=I.cell x c e
  exact⟨v,cellK x c e v z⟩
 ·obtain⟨m,⟨o,_,_,ho,_⟩,_⟩:=I.loc
  exact free _ o (fun z=>(hch _ z).2.1 rfl) ho I.free
 ·obtain⟨v,o,ho,hd⟩:=I.cell x c e
  exact free c o (fun z=>(hch c z).2.2.1 x c e rfl) ho (I.freeC x c e)
 ·obtain⟨e,n,ne,nf,d⟩:=I.pin p hp
  have nch:p.1∉ch:=fun z=>(hch p.1 z).2.2.2 p hp rfl;exact⟨keep p.1 p.2 ne nf nch e n,free p.1 p.2 nch e n,ne,nf,d⟩
theorem Inv.un{t':Nat}(I:Inv X pins σ H s)(u:Un X.fs [] H H' s.heap h')(hok:HOk X.prog X.w H' h'): Inv X pins σ H' {s with heap:=h',toks:=t'}:=by
 obtain⟨m,⟨o,es,ep,ho,r⟩,_⟩:=id I.loc;obtain⟨sl,hL⟩:=u.any ho I.free (by simp);exact I.step (g':=s.gens) (d':=s.drawn) (ch:=[]) (fun _ z=>nomatch z) (fun b o _ hb _ e n=>u.keep b o e n hb (by simp)) (fun b o _ hb _ e n=>u.slot b o e n hb (by simp)) (fun b o _ e n=>u.free b o e n (by simp)) (fun b o _ e=>u.there b o e (by simp)) u.tups u.frzs u.tbls (fun m' hm=>by
  obtain⟨o',es',ep',ho',r'⟩:=hm;rw [ho] at ho';cases ho';exact⟨_,es',ep',hL,r'⟩) hok I.bare
theorem Inv.call{g':Array GenState}{t':Nat}{d':Drawn}{ch:List Addr}(I:Inv X pins σ H s)(u:Un (frs X.stack) ch H H' s.heap h')(hok:HOk X.prog X.w H' h')(hg:AllBare g')
  (hch:∀b∈ch,(b∈X.ex\/X.s₀.heap.objs.size<=b)/\b≠X.env.locals/\(∀x c,X.env.cells.lookup x=some c->c≠b)/\∀p∈X.pn++pins,p.1≠b) :
  Inv X pins σ H' {s with heap:=h',gens:=g',drawn:=d',toks:=t'}:=by
 obtain⟨m,⟨o,es,ep,ho,r⟩,_⟩:=id I.loc;obtain⟨sl,hL⟩:=u.any ho I.free fun z=>(hch _ z).2.1 rfl;exact I.step (ch:=ch) hch (fun b o hL hb hc e n=>u.keep b o e n (fun z=>(me.mp (I.stkSub b z)).elim hL hb) hc) (fun b o _ _ hc e n=>u.any e n hc) (fun b o hc e n=>u.free b o e n hc) (fun b o hc e=>u.there b o e hc) u.tups u.frzs u.tbls (fun m' hm=>by
  obtain⟨o',es',ep',ho',r'⟩:=hm;rw [ho] at ho';cases ho';exact⟨_,es',ep',hL,r'⟩) hok hg
theorem Inv.turned{t':Nat}{it:Addr}(I:Inv X pins σ H s)(k:∀b o,b≠it->s.heap.get? b=some o->h'.get? b=some o)(hn:H it=none)(hL:it≠X.env.locals)
  (h1:it∈X.ex\/X.s₀.heap.objs.size<=it) (h2:∀x c,X.env.cells.lookup x=some c->c≠it) (h3:∀p∈X.pn++pins,p.1≠it):Inv X pins σ H {s with heap:=h',toks:=t'}:=by
 have nit:∀b u,H b=some u->b≠it:=fun b u e z=>by rw [z,hn] at e;cases e
 refine I.step (g':=s.gens) (d':=s.drawn) (ch:=[it]) (fun b hb=>?_) (fun b o _ _ hc e _=>k b o (fun z=>hc (by simp [z])) e) (fun b o _ _ hc e _=>⟨o.slots,k b o (fun z=>hc (by simp [z])) e⟩) (fun _ _ _ _ n=>n)
  (fun b o hc e=>⟨o,k b o (fun z=>hc (by simp [z])) e⟩) (fun _ _ e=>e) (fun _ _ _ e=>e) (fun b ps e=>⟨#[],by rw [e];simp⟩) (fun m hm=>?_) (fun b u e=>?_) I.bare
 ·have e:b=it:=by simpa using hb
  subst e;exact⟨h1,hL,h2,h3⟩
 ·obtain⟨o,es,ep,ho,r⟩:=hm
  exact⟨o,es,ep,k _ o (m5 hL) ho,r⟩
 ·refine(I.hok b u e).stay (fun c v hc q=>k c v ?_ q) (fun _ q=>q) fun _ _ q=>q
  rcases hc with z|z
  ·rw [z];exact nit b u e
  ·exact nit c _ z
theorem Inv.tok(I:Inv X pins σ H s)(t:Nat): Inv X pins σ H {s with toks:=t}:=I.un (h':=s.heap) (t':=t) Un.refl I.hok
theorem Inv.kept{t':Nat}(I:Inv X pins σ H s)(k:∀b u,s.heap.get? b=some u->h'.get? b=some u): Inv X pins σ H {s with heap:=h',toks:=t'}:=I.un (Un.kept k) (I.hok.kept k)
theorem Inv.laid{a:Addr}{o:HO}{t':Nat}(I:Inv X pins σ H s)(k:∀b u,s.heap.get? b=some u->h'.get? b=some u)(hp:s.heap.objs.size<=a)(new:ObjOk X.prog X.w (upd H a o) h' a o):
  Inv X pins σ (upd H a o) {s with heap:=h',toks:=t'}:=I.un (Un.laid k hp (I.hok.fresh hp)) (I.hok.laid k hp new)
theorem Inv.write{x e:Addr}{o:HO}{t':Nat}(I:Inv X pins σ H s)(mu:Mut (H x))(he:e=x\/H e=some (.own x))(k:∀b u,b≠e->s.heap.get? b=some u->h'.get? b=some u)(heo:∃u,h'.get? e=some u)
  (new:ObjOk X.prog X.w (upd H x o) h' x o):Inv X pins σ (upd H x o) {s with heap:=h',toks:=t'}:=I.un (Un.write mu he k heo) (I.hok.write mu he k heo new)
theorem Inv.pins_of{pins':List (Addr×Obj)}(I:Inv X pins σ H s)(h:∀p∈pins',s.heap.get? p.1=some p.2/\H p.1=none/\p.1≠X.env.locals/\p.1∉X.fs/\∀v,p.2.data ≠ .cell v): Inv X pins' σ H s:=
 ⟨I.ok,I.os,I.bare,I.base,I.loc,I.cell,I.free,I.freeC,fun p hp=>(nh.mp hp).elim (fun z=>I.pin p (List.mem_append_left _ z)) (h p),I.hok,I.len⟩
theorem q74{N:List Str}(hN:N.Nodup){i j:Nat}{x:Str}(a:N[i]? = some x)(b:N[j]? = some x): i=j:=by
 obtain⟨h1,e1⟩:=mq.mp a;obtain⟨h2,e2⟩:=mq.mp b;exact(List.getElem_inj hN).mp (e1.trans e2.symm)
theorem qbt{M:Model}{A:Around}{E:Value->Shared->Prop}{i:Nat}{x:Str}{v:V}{u:Value}{Q:Unit->Shared->Prop}(I:Inv X pins σ H s)(hN:X.N.Nodup)(hi:X.N[i]? = some x)(hx:Loc X.env.scope x)(r:RelV v u)
  (h:∀s',Inv X pins (σ.set i (some v)) H s'->(∃a,Heap.SameBut a s.heap s'.heap/\(a=X.env.locals\/X.env.cells.lookup x=some a))->Q () s') (hf:X.fn x=true\/X.env.scope.names.lookup x=some .local:=by first|exact .inl rfl|exact .inr rfl|assumption):wpAny M A (storeName X.env x u) Q E s:=by
 obtain⟨m,hn,hl⟩:=id I.loc;have hcls:(X.env.scope.kind == .class || (X.env.scope.kind == .module&&X.env.locals != X.env.globals))=false:=by rw [I.ok.kind];rfl
 have hiσ : i < σ.length:=by rw [I.len];exact(mq.mp hi).1
 have cne:=I.cne;have tracked:∀ {a:Addr} {h':Heap},(∃o,s.heap.get? a=some o/\H a=none)->Heap.SameBut a s.heap h'->HOk X.prog X.w H h':=fun {a h'} ha hs b ob e=>by
  obtain⟨_,_,hfree⟩:=ha;refine(I.hok b ob e).stay (fun c w' hc q=>(hs.2 c ?_).trans q) (fun _ q=>q) fun _ _ q=>q
  rintro rfl
  rcases hc with rfl|hc
  ·rw [hfree] at e;cases e
  ·rw [hfree] at hc;cases hc
 rcases hx with hk|hk
 ·refine wpAny_storeName_local hk hn (fun h' hn' hs=>?_) hcls
  obtain⟨oL,_,_,hoL,_⟩:=id hn;refine h _ ⟨I.ok,I.os,I.bare,⟨fun b o e n hb hx=>?_,fun b o e n hb hx=>?_,I.base.free,fun b o e hx=>?_,I.base.tups,I.base.frzs,I.base.tbls⟩,⟨_,hn',fun j y v' e1 e2 e3=>?_⟩,fun y c e=>?_,I.free,I.freeC,fun p hp=>?_,tracked ⟨oL,hoL,I.free⟩ hs,by simpa using I.len⟩ ⟨_,hs,.inl rfl⟩
  ·exact(hs.2 b (mh (gw (gp e) I.ok.above))).trans (I.base.keep b o e n hb hx)
  ·obtain⟨sl,e1⟩:=I.base.slot b o e n hb hx
   exact⟨sl,(hs.2 b (mh (gw (gp e) I.ok.above))).trans e1⟩
  ·obtain⟨o',e1⟩:=I.base.there b o e hx
   exact⟨o',(hs.2 b (mh (gw (gp e) I.ok.above))).trans e1⟩
  ·by_cases hj:j=i
   ·subst hj
    rw [hi] at e1;cases e1;rw [n9 hiσ] at e2;cases e2;exact⟨u,r,.inl ⟨hk,by simp⟩⟩
   ·rw [g8 (m5 hj)] at e2
    obtain⟨u',r',q⟩:=hl j y v' e1 e2 e3;refine⟨u',r',?_⟩;rcases q with⟨k,e⟩|⟨k,c,e,z⟩
    ·refine .inl ⟨k,?_⟩
     have:y≠x:=fun e=>hj (q74 hN e1 (e ▸ hi));simp [this,e]
    ·exact .inr ⟨k,c,e,z.sameBut hs (cne y c e)⟩
  ·obtain⟨w',z⟩:=I.cell y c e
   exact⟨w',z.sameBut hs (cne y c e)⟩
  ·obtain⟨e,n,ne,nf,d⟩:=I.pin p hp
   exact⟨(hs.2 p.1 ne).trans e,n,ne,nf,d⟩
 ·have hfn:X.fn x=true:=by
   rcases hf with z|z
   ·exact z
   ·rw [z] at hk;cases hk
  obtain⟨c,hc⟩:=I.ok.has x (.inl hk);obtain⟨w',z⟩:=I.cell x c hc;refine wpAny_storeName_cell I.ok.kind hk hc z (fun h' hc' hs=>?_);obtain⟨oc,hoc,hocd⟩:=id z;refine h {s with heap:=h'} ⟨I.ok,I.os,I.bare,⟨fun b o e n hb hx=>?_,fun b o e n hb hx=>?_,I.base.free,fun b o e hx=>?_,I.base.tups,I.base.frzs,I.base.tbls⟩,⟨m,hn.sameBut hs (m5 (cne x c hc)),fun j y v' e1 e2 e3=>?_⟩,fun y c' e=>?_,I.free,I.freeC,fun p hp=>?_,tracked ⟨oc,hoc,I.freeC x c hc⟩ hs,by simpa using I.len⟩ ⟨c,hs,.inr hc⟩
  ·exact(hs.2 b (mh (gw (gp e) (I.ok.cab x c hfn hc)))).trans (I.base.keep b o e n hb hx)
  ·obtain⟨sl,e1⟩:=I.base.slot b o e n hb hx
   exact⟨sl,(hs.2 b (mh (gw (gp e) (I.ok.cab x c hfn hc)))).trans e1⟩
  ·obtain⟨o',e1⟩:=I.base.there b o e hx
   exact⟨o',(hs.2 b (mh (gw (gp e) (I.ok.cab x c hfn hc)))).trans e1⟩
  ·by_cases hj:j=i
   ·subst hj
    rw [hi] at e1;cases e1;rw [n9 hiσ] at e2;cases e2;exact⟨u,r,.inr ⟨.inl hk,c,hc,hc'⟩⟩
   ·rw [g8 (m5 hj)] at e2
    obtain⟨u',r',q⟩:=hl j y v' e1 e2 e3;refine⟨u',r',?_⟩;rcases q with q|⟨k,c',e,z'⟩
    ·exact .inl q
    ·refine .inr ⟨k,c',e,z'.sameBut hs ?_⟩
     rintro rfl
     exact hj (q74 hN e1 (I.ok.inj _ _ _ e hc ▸ hi))
  ·by_cases hcc:c'=c
   ·subst hcc;exact⟨_,hc'⟩
   ·obtain⟨w2,z2⟩:=I.cell y c' e
    exact⟨w2,z2.sameBut hs hcc⟩
  ·obtain⟨e,n,ne,nf,d⟩:=I.pin p hp
   refine⟨(hs.2 p.1 ?_).trans e,n,ne,nf,d⟩;intro q;rw [q,hoc] at e;have q':oc=p.2:=mi e;exact d w' (by rw [<- q'];exact hocd)
theorem q3p{M:Model}{A:Around}{E:Value->Shared->Prop}{i:Nat}{x:Str}{v:V}{u:Value}{Q:Unit->Shared->Prop}(I:Inv X pins σ H s)(hN:X.N.Nodup)(hi:X.N[i]? = some x)(hx:Loc X.env.scope x)(r:RelV v u)
  (h:∀s',Inv X pins (σ.set i (some v)) H s'->Q () s') (hf:X.fn x=true\/X.env.scope.names.lookup x=some .local:=by first|exact .inl rfl|exact .inr rfl|assumption):wpAny M A (storeName X.env x u) Q E s:=
 qbt I hN hi hx r (fun s' I' _=>h s' I') hf
theorem Inv.call'{s':Shared}{ch:List Addr}(I:Inv X pins σ H s)(ho:s'.os=s.os)(u:Un (frs X.stack) ch H H' s.heap s'.heap)(hok:HOk X.prog X.w H' s'.heap)(hg:AllBare s'.gens)
  (hch:∀b∈ch,(b∈X.ex\/X.s₀.heap.objs.size<=b)/\b≠X.env.locals/\(∀x c,X.env.cells.lookup x=some c->c≠b)/\∀p∈X.pn++pins,p.1≠b):Inv X pins σ H' s':=by
 obtain⟨h',g',d',t',o'⟩:=s';have e:o'=s.os:=ho;subst e;exact I.call (g':=g') (t':=t') (d':=d') u hok hg hch
end
abbrev XK:=Value->Option Addr->Hp->Prop
abbrev St:=List (Option V)
abbrev VK:=V->Hp->Prop
abbrev TE:=St->Hp->VK->Prop
abbrev TT:=St->Hp->(Bool->Hp->Prop)->Prop
abbrev TA:=St->Hp->(List V->Hp->Prop)->Prop
structure Ends where
 nx:St->Hp->Prop
 rt:VK
 bk:St->Hp->Prop:=fun _ _=>False
 ct:St->Hp->Prop:=fun _ _=>False
abbrev TS:=Ends->St->Hp->Prop
def EP(X:Cx)(pins:List (Addr×Obj))(σ : St)(Q:VK)(u:Value)(s':Shared): Prop:=∃v H',Inv X pins σ H' s'/\RelV v u/\Q v H'
def TP(X:Cx)(pins:List (Addr×Obj))(σ : St)(Q:Bool->Hp->Prop)(b:Bool)(s':Shared): Prop:=∃H',Inv X pins σ H' s'/\Q b H'
def AP(X:Cx)(pins:List (Addr×Obj))(σ : St)(Q:List V->Hp->Prop)(us:List Value)(s':Shared): Prop:=∃vs H',Inv X pins σ H' s'/\Vals vs us/\Q vs H'
def SP(X:Cx)(pins:List (Addr×Obj))(D:Ends)(f:Flow)(s':Shared): Prop:=
 match f with
 | .next=>∃ σ' H',Inv X pins σ' H' s'/\D.nx σ' H'
 | .brk=>∃ σ' H',Inv X pins σ' H' s'/\D.bk σ' H'
 | .cont=>∃ σ' H',Inv X pins σ' H' s'/\D.ct σ' H'
 | .ret u=>∃v σ' H',Inv X pins σ' H' s'/\RelV v u/\D.rt v H'
def PE(X:Cx)(e:Expr)(t:TE): Prop:=
 ∀(pins:List (Addr×Obj)) (s:Shared) (σ : St) (H:Hp) (Q:VK),Inv X pins σ H s->t σ H Q->wpAny (model X.prog X.w) X.A (eval e X.env) (EP X pins σ Q) X.xe s
def PT(X:Cx)(e:Expr)(t:TT): Prop:=
 ∀(pins:List (Addr×Obj)) (s:Shared) (σ : St) (H:Hp) (Q:Bool->Hp->Prop),Inv X pins σ H s->t σ H Q->wpAny (model X.prog X.w) X.A (isTrue e X.env (eval e X.env)) (TP X pins σ Q) X.xe s
def PW(X:Cx)(e:Expr)(t:TT): Prop:=
 ∀(whole:Sem Value) (pins:List (Addr×Obj)) (s:Shared) (σ : St) (H:Hp) (Q:Bool->Hp->Prop),Inv X pins σ H s->t σ H Q->wpAny (model X.prog X.w) X.A (isTrue e X.env whole) (TP X pins σ Q) X.xe s
theorem PW.pt{X:Cx}{e:Expr}{t:TT}(h:PW X e t): PT X e t:=h _
def PA(X:Cx)(es:List Expr)(t:TA): Prop:=
 ∀(pos:Pos) (pins:List (Addr×Obj)) (s:Shared) (σ : St) (H:Hp) (Q:List V->Hp->Prop),Inv X pins σ H s->t σ H Q->wpAny (model X.prog X.w) X.A (spliced (backTo pos (starEach es X.env))) (AP X pins σ Q) X.xe s
def PS(X:Cx)(st:Stmt)(t:TS): Prop:=
 ∀(pins:List (Addr×Obj)) (s:Shared) (σ : St) (H:Hp) (D:Ends),Inv X pins σ H s->t D σ H->wpAny (model X.prog X.w) X.A (exec st X.env) (SP X pins D) X.xe s
def PSs(X:Cx)(st:List Stmt)(t:TS): Prop:=
 ∀(pins:List (Addr×Obj)) (s:Shared) (σ : St) (H:Hp) (D:Ends),Inv X pins σ H s->t D σ H->wpAny (model X.prog X.w) X.A (execs st X.env) (SP X pins D) X.xe s
theorem thn{α : Type}{t:Sem α}{Q Q' : α -> Shared->Prop}{M:Model}{A:Around}{E:Value->Shared->Prop}{s:Shared}(h:wpAny M A t Q E s)(hQ:∀a s,Q a s->Q' a s): wpAny M A t Q' E s:=nk h hQ fun _ _ x=>x
section
variable{X:Cx}
def q3q(i:Nat): TE:=fun σ H Q=>∃v, σ[i]? = some (some v)/\Q v H
def tC(v:V): TE:=fun _ H Q=>Q v H
theorem qhk{i:Nat}{x:Str}{pos:Pos}(hN:X.N[i]? = some x)(hv:Vis X.env.scope x)(hd:(x==("__debug__" : Str))=false:=by decide)(hcd:(x==("__classdict__" : Str))=false:=by decide): PE X (.Name x pos) (q3q i):=by
 intro pins s σ H Q I h;obtain⟨v,e,h⟩:=h;obtain⟨m,hn,hl⟩:=I.loc;obtain⟨u,r,l⟩:=hl i x v hN e hv;have fin:EP X pins σ Q u s:=⟨v,H,I,r,h⟩
 rcases l with⟨hk,hm⟩|⟨hk,c,hc,hcell⟩
 ·exact wpAny_Name (wpAny_loadName_local I.ok.kind hk hn hm fin) hd
 ·rcases hk with hk|hk
  ·exact wpAny_Name (wpAny_loadName_cell I.ok.kind hk hc hcell fin) hd
  ·exact wpAny_Name (wpAny_loadName_free I.ok.kind hk hc hcell fin hcd) hd
theorem qhl{i j pos}: PE X (.Constant (.int i) j pos) (tC (.int i)):=fun _ _ _ H _ I h=>wpAny_Constant_int ⟨.int i,H,I.tok _,⟨_,rfl⟩,h⟩
theorem qjs{b j pos}: PE X (.Constant (.bool b) j pos) (tC (.bl b)):=fun _ _ _ H _ I h=>Constant_bool ⟨.bl b,H,I,rfl,h⟩
theorem qhm{x j pos}: PE X (.Constant (.str x) j pos) (tC (.str x)):=fun _ _ _ H _ I h=>Calls.Constant_str ⟨.str x,H,I.tok _,⟨_,rfl⟩,h⟩
def Gl(X:Cx)(x:Str): Prop:=X.env.kindOf x=some .globalImplicit
theorem q9h{E:Value->Shared->Prop}{pins:List (Addr×Obj)}{s:Shared}{σ : St}{H:Hp}{x:Str}{u:Value}{pos:Pos}{Q:Value->Shared->Prop}(I:Inv X pins σ H s)(hg:Gl X x)(hm:X.mg x=some u)(h:Q u s)
  (hd:(x==("__debug__" : Str))=false:=by decide):wpAny (model X.prog X.w) X.A (eval (.Name x pos) X.env) Q E s:=
 Calls.Name_function_global I.ok.kind hg (Calls.loadGlobal_global (by rw [I.ok.glob];exact I.mod.glob.keeps I.bk) hm h) hd
theorem q02{E:Value->Shared->Prop}{pins:List (Addr×Obj)}{s:Shared}{σ : St}{H:Hp}{x:Str}{u:Value}{pos:Pos}{Q:Value->Shared->Prop}(I:Inv X pins σ H s)(hg:Gl X x)(hm:X.mg x=none)(hv:bootBuiltins x=some u)(h:Q u s)
  (hn:x≠"__name__" :=by decide) (hd:(x==("__debug__" : Str))=false:=by decide):wpAny (model X.prog X.w) X.A (eval (.Name x pos) X.env) Q E s:=by
 obtain⟨mb,h1,h2⟩:=I.mod.blt;exact Calls.Name_function_global I.ok.kind hg (Calls.loadGlobal_builtin (by rw [I.ok.glob];exact I.mod.glob.keeps I.bk) hm (by rw [I.ok.blt];exact h1.keeps I.bk) ((h2 x hn).trans hv) h) hd
theorem q9i{x:Str}{v:V}{u:Value}{pos:Pos}(hg:Gl X x)(hm:X.mg x=some u)(r:RelV v u)(hd:(x==("__debug__" : Str))=false:=by decide): PE X (.Name x pos) (tC v):=
 fun _ _ _ H _ I h=>q9h I hg hm ⟨v,H,I,r,h⟩ hd
theorem qft{x:Str}{v:V}{u:Value}{pos:Pos}(hg:Gl X x)(hm:X.mg x=none)(hv:bootBuiltins x=some u)(r:RelV v u)(hn:x≠"__name__" :=by decide)(hd:(x==("__debug__" : Str))=false:=by decide): PE X (.Name x pos) (tC v):=
 fun _ _ _ H _ I h=>q02 I hg hm hv ⟨v,H,I,r,h⟩ hn hd
variable{a b:Expr}{ta tb:TE}{pos:Pos}
theorem q75(b:Expr){op:CmpOp}(h:op ≠ .In)(h2:op ≠ .NotIn): behindInMarks op b=false:=by
 have e1:(op==CmpOp.In)=false:=by cases op <;> first|rfl|exact absurd rfl h
 have e2:(op==CmpOp.NotIn)=false:=by cases op <;> first|rfl|exact absurd rfl h2
 cases b <;> simp [behindInMarks,e1,e2]
variable{tA tB':TT}{rest:List Expr}
def qkn(t u:TT): TT:=fun σ H Q=>t σ H fun c H1=>if c=true then u σ H1 Q else Q false H1
def tOr(t u:TT): TT:=fun σ H Q=>t σ H fun c H1=>if c=true then Q true H1 else u σ H1 Q
def qko(t:TT): TT:=fun σ H Q=>t σ H fun c H1=>Q (!c) H1
theorem qfu(ha:PT X a tA): PW X (.BoolOp .And [a] pos) tA:=by
 intro wh pins s σ H Q I h;refine isTrue_and (thn (ha pins s σ H Q I h) fun c s1 e=>?_);cases c with
 | true=>exact isTrue_and_nil e
 | false=>exact e
theorem qhn(ha:PT X a tA): PW X (.BoolOp .Or [a] pos) tA:=by
 intro wh pins s σ H Q I h;refine isTrue_or (thn (ha pins s σ H Q I h) fun c s1 e=>?_);cases c with
 | false=>exact isTrue_or_nil e
 | true=>exact e
theorem qho(ha:PT X a tA)(hb:PW X (.BoolOp .And (b :: rest) pos) tB'): PW X (.BoolOp .And (a :: b :: rest) pos) (qkn tA tB'):=by
 intro wh pins s σ H Q I h;refine isTrue_and (thn (ha pins s σ H _ I h) fun c s1 ⟨H1,I1,q1⟩=>?_);cases c with
 | true=>exact hb wh pins s1 σ H1 Q I1 q1
 | false=>exact⟨H1,I1,q1⟩
theorem qjt(ha:PT X a tA)(hb:PW X (.BoolOp .Or (b :: rest) pos) tB'): PW X (.BoolOp .Or (a :: b :: rest) pos) (tOr tA tB'):=by
 intro wh pins s σ H Q I h;refine isTrue_or (thn (ha pins s σ H _ I h) fun c s1 ⟨H1,I1,q1⟩=>?_);cases c with
 | true=>exact⟨H1,I1,q1⟩
 | false=>exact hb wh pins s1 σ H1 Q I1 q1
theorem qhp(ha:PT X a tA): PT X (.UnaryOp .Not a pos) (qko tA):=by
 intro pins s σ H Q I h;exact isTrue_not (ha pins s σ H (fun c H1=>Q (!c) H1) I h)
def qju(ta tb:TE): TE:=fun σ H Q=>ta σ H fun x H1=>∃c,x=.bl c/\if c=true then tb σ H1 Q else Q (.bl false) H1
theorem qhq{op}{t:TE}(h:PE X a t): PE X (.BoolOp op [a] pos) t:=fun pins s σ H Q I hw=>BoolOp_one (h pins s σ H Q I hw)
theorem qhr(ha:PE X a ta)(hb:PE X (.BoolOp .And (b :: rest) pos) tb): PE X (.BoolOp .And (a :: b :: rest) pos) (qju ta tb):=by
 intro pins s σ H Q I h;refine BoolOp_and (thn (ha pins s σ H _ I h) fun v s1 ⟨x,H1,I1,r1,q1⟩=>?_);obtain⟨c,rfl,q1⟩:=q1;cases r1;refine p7 ?_;cases c with
 | true=>exact hb pins s1 σ H1 Q I1 q1
 | false=>exact⟨.bl false,H1,I1,rfl,q1⟩
end
def SqL(K:PySem.W.Frag)(H:Hp)(a:Addr)(xs:List V): Prop:=
 Rd H a (.lst xs) \/
  ∃(o:Obj) (its:Array Value) (n:Nat),K.lookup a=some o/\o.cls=.type "list" /\ o.dict=none/\o.data=.seq its n/\its.size<=sizeLine/\Vals xs its.toList
def SqT(K:PySem.W.Frag)(H:Hp)(a:Addr)(xs:List V): Prop:=
 Rd H a (.tup xs) \/
  ∃(o:Obj) (its:Array Value) (n:Nat),K.lookup a=some o/\o.cls=.type "tuple" /\ o.dict=none/\o.data=.seq its n/\its.size<=sizeLine/\Vals xs its.toList
def qkp:Value->Option V
 | .none=>some .non
 | .bool b=>some (.bl b)
 | .int i _=>some (.int i)
 | .str x _=>some (.str x)
 | .bytes b _=>some (.byt b)
 | .float b _=>some (.flt b)
 | .ref a=>some (.ref a)
 | .type n=>some (.ty n)
 | _=>none
theorem RelV.abs{x:V}{u:Value}(r:RelV x u): qkp u=some x:=by
 cases x with
 | non=>cases r;rfl
 | bl _=>cases r;rfl
 | int _=>obtain⟨t,rfl⟩:=r;rfl
 | str _=>obtain⟨t,rfl⟩:=r;rfl
 | byt _=>obtain⟨t,rfl⟩:=r;rfl
 | flt _=>obtain⟨t,rfl⟩:=r;rfl
 | ref _=>cases r;rfl
 | ty _=>cases r;rfl
theorem RelV.inj{x y:V}{u:Value}(r:RelV x u)(q:RelV y u): x=y:=mi (r.abs.symm.trans q.abs)
theorem Vals.inj:∀ {xs ys:List V} {us:List Value},Vals xs us->Vals ys us->xs=ys
 | _,_,_,.nil,.nil=>rfl
 | _,_,_,.cons r t,.cons r' t'=>by rw [r.inj r',Vals.inj t t']
section
variable{X:Cx}{pins:List (Addr×Obj)}{σ : St}{H:Hp}{s:Shared}{a:Addr}{xs ys:List V}
theorem SqL.of{K:PySem.W.Frag}(h:H a=some (.lst xs)): SqL K H a xs:=.inl (.inl h)
theorem SqT.of{K:PySem.W.Frag}(h:H a=some (.tup xs)): SqT K H a xs:=.inl (.inl h)
theorem Inv.list(I:Inv X pins σ H s)(h:SqL X.K H a xs): ∃its:List Value,Vals xs its/\PlainL s.heap a its.toArray/\xs.length<=sizeLine:=by
 rcases h with h|⟨o,its,n,hk,hc,hd,hs,hz,r⟩
 ·obtain⟨z,its,n,r,e⟩:=h.ok I.hok
  exact⟨its,r,⟨_,n,e,rfl,rfl,rfl⟩,z⟩
 ·refine⟨its.toList,r,⟨o,n,I.kIn a o hk,hc,hd,by simpa using hs⟩,?_⟩
  have e:=r.length;simp only [pk] at e;omega
theorem Inv.tupleX(I:Inv X pins σ H s)(h:SqT X.K H a xs): ∃its:List Value,Vals xs its/\TupX s.heap a its.toArray/\xs.length<=sizeLine:=by
 rcases h with h|⟨o,its,n,hk,hc,hd,hs,hz,r⟩
 ·obtain⟨z,its,r,p⟩:=h.ok I.hok
  exact⟨its,r,p,z⟩
 ·refine⟨its.toList,r,⟨o,I.kIn a o hk,hc,hd,n,by simpa using hs⟩,?_⟩
  have e:=r.length;simp only [pk] at e;omega
theorem Inv.tuple(I:Inv X pins σ H s)(h:SqT X.K H a xs): ∃its:List Value,Vals xs its/\IsTup s.heap a its.toArray/\xs.length<=sizeLine:=let⟨its,r,p,z⟩:=I.tupleX h; ⟨its,r,p.up,z⟩
theorem Inv.list_inj(I:Inv X pins σ H s)(h:SqL X.K H a xs)(h':SqL X.K H a ys): xs=ys:=by
 obtain⟨its,r,⟨o,n,e,_,_,d⟩,_⟩:=I.list h;obtain⟨its',r',⟨o',n',e',_,_,d'⟩,_⟩:=I.list h';rw [e] at e';cases e';rw [d] at d';injection d' with d1 _
 have:its=its':=by simpa using n3 Array.toList d1
 subst this;exact r.inj r'
theorem Inv.tuple_inj(I:Inv X pins σ H s)(h:SqT X.K H a xs)(h':SqT X.K H a ys): xs=ys:=by
 obtain⟨its,r,⟨o,e,_,n,d⟩,_⟩:=I.tuple h;obtain⟨its',r',⟨o',e',_,n',d'⟩,_⟩:=I.tuple h';rw [e] at e';cases e';rw [d] at d';injection d' with d1 _
 have:its=its':=by simpa using n3 Array.toList d1
 subst this;exact r.inj r'
end
abbrev Cx.wish(X:Cx)(E:Value->Shared->Prop): Cx:={X with xe:=E}
abbrev Cx.nox(X:Cx): Cx:=X.wish fun _ _=>False
theorem Cx.Ok.wish{X:Cx}(ok:X.Ok)(E:Value->Shared->Prop): (X.wish E).Ok:=
 ⟨ok.mod,ok.kind,ok.glob,ok.blt,ok.above,ok.inj,ok.has,ok.cab,ok.hd,ok.frames,ok.stk,ok.exf,ok.bs,ok.bsz,ok.noex,ok.exfs,ok.funs,ok.frf⟩
theorem Cx.Ok.unwish{X:Cx}{E:Value->Shared->Prop}(ok:(X.wish E).Ok): X.Ok:=
 ⟨ok.mod,ok.kind,ok.glob,ok.blt,ok.above,ok.inj,ok.has,ok.cab,ok.hd,ok.frames,ok.stk,ok.exf,ok.bs,ok.bsz,ok.noex,ok.exfs,ok.funs,ok.frf⟩
section
variable{X:Cx}{pins:List (Addr×Obj)}{σ : St}{H:Hp}{s:Shared}{E:Value->Shared->Prop}
theorem Inv.wish(I:Inv X pins σ H s)(E:Value->Shared->Prop): Inv (X.wish E) pins σ H s:=⟨I.ok.wish E,I.os,I.bare,I.base,I.loc,I.cell,I.free,I.freeC,I.pin,I.hok,I.len⟩
theorem Inv.unwish(I:Inv (X.wish E) pins σ H s): Inv X pins σ H s:=⟨I.ok.unwish,I.os,I.bare,I.base,I.loc,I.cell,I.free,I.freeC,I.pin,I.hok,I.len⟩
theorem SP.unwish{D:Ends}{f:Flow}{s':Shared}(h:SP (X.wish E) pins D f s'): SP X pins D f s':=by
 cases f with
 | next=>obtain⟨σ',H',I,q⟩:=h;exact⟨σ',H',I.unwish,q⟩
 | brk=>obtain⟨σ',H',I,q⟩:=h;exact⟨σ',H',I.unwish,q⟩
 | cont=>obtain⟨σ',H',I,q⟩:=h;exact⟨σ',H',I.unwish,q⟩
 | ret u=>obtain⟨v, σ',H',I,r,q⟩:=h;exact⟨v, σ',H',I.unwish,r,q⟩
theorem PSs.nox{st:List Stmt}{t:TS}(h:PSs X.nox st t): PSs X st t:=fun pins s σ H D I hw=>
 nk (h pins s σ H D (I.wish _) hw) (fun _ _ q=>q.unwish) fun _ _ z=>False.elim z
end
section
variable{X:Cx}{st:Stmt}{rest:List Stmt}{t u:TS}{e:Expr}{te:TE}{pos:Pos}
def tNext:TS:=fun D σ H=>D.nx σ H
def qkq(t u:TS): TS:=fun D σ H=>t {D with nx:=u D} σ H
theorem qfv:PSs X [] tNext:=fun _ _ σ H _ I h=>g1b ⟨σ,H,I,h⟩
theorem q3r(h1:PS X st t)(h2:PSs X rest u): PSs X (st :: rest) (qkq t u):=by
 intro pins s σ H D I h;refine wpAny_execs_cons (thn (h1 pins s σ H {D with nx:=u D} I h) fun f s1 q=>?_);cases f with
 | next=>
  obtain⟨σ',H',I',q⟩:=q;exact h2 pins s1 σ' H' D I' q
 | ret v=>exact q
 | brk=>exact q
 | cont=>exact q
theorem q58(h1:PS X st t): PSs X [st] t:=by
 intro pins s σ H D I h;refine wpAny_execs_cons (thn (h1 pins s σ H D I h) fun f s1 q=>?_);cases f with
 | next=>exact g1b q
 | ret v=>exact q
 | brk=>exact q
 | cont=>exact q
theorem Inv.quiet{pins:List (Addr×Obj)}{σ : St}{H:Hp}{s:Shared}(I:Inv X pins σ H s): interactive X.env=false:=by simp [interactive,I.ok.kind]
def qjv(te:TE): TS:=fun D σ H=>te σ H fun _ H1=>D.nx σ H1
theorem q9j(he:PE X e te)(hs:swapsWith e none pos.line X.env=pure false:=by rfl): PS X (.Expr e pos) (qjv te):=by
 intro pins s σ H D I h;exact wpAny_Expr_any (thn (he pins s σ H _ I h) fun v s1 ⟨x,H1,I1,r1,q1⟩=>⟨σ,H1,I1,q1⟩) I.quiet hs
def qkr(te:TE): TS:=fun D σ H=>te σ H D.rt
theorem qhs(he:PE X e te): PS X (.Return (some e) pos) (qkr te):=by
 intro pins s σ H D I h;exact wpAny_Return_some (thn (he pins s σ H _ I h) fun v s1 ⟨x,H1,I1,r1,q1⟩=>⟨x, σ,H1,I1,r1,q1⟩)
def qks(c:TT)(t u:TS): TS:=fun D σ H=>c σ H fun b H1=>if b=true then t D σ H1 else u D σ H1
theorem qjw{c:Expr}{a b:List Stmt}{tc:TT}(hc:PT X c tc)(ha:PSs X a t)(hb:PSs X b u): PS X (.If c a b pos) (qks tc t u):=by
 intro pins s σ H D I h;refine wpAny_If (thn (hc pins s σ H _ I h) fun d s1 ⟨H1,I1,q1⟩=>?_);cases d with
 | true=>exact ha pins s1 σ H1 D I1 q1
 | false=>exact hb pins s1 σ H1 D I1 q1
end
abbrev TG:=V->St->Hp->(St->Hp->Prop)->Prop
abbrev TGs:=List V->St->Hp->(St->Hp->Prop)->Prop
def PG(X:Cx)(target:Expr)(t:TG): Prop:=
 ∀(pins:List (Addr×Obj)) (s:Shared) (σ : St) (H:Hp) (v:V) (u:Value) (Q:St->Hp->Prop),Inv X pins σ H s->RelV v u->t v σ H Q ->
  wpAny (model X.prog X.w) X.A (assign target X.env u) (fun _ s'=>∃ σ' H',Inv X pins σ' H' s'/\Q σ' H') X.xe s
def PGs(X:Cx)(ts:List Expr)(t:TGs): Prop:=
 ∀(pins:List (Addr×Obj)) (s:Shared) (σ : St) (H:Hp) (vs:List V) (us:List Value) (Q:St->Hp->Prop),Inv X pins σ H s->Vals vs us->t vs σ H Q ->
  wpAny (model X.prog X.w) X.A (assignInOrder ((assignEach ts X.env).map (·.2)) us) (fun _ s'=>∃ σ' H',Inv X pins σ' H' s'/\Q σ' H') X.xe s
section
variable{X:Cx}{pos:Pos}
def ka(i:Nat): TG:=fun v σ H Q=>Q (σ.set i (some v)) H
theorem q2z{i:Nat}{x:Str}(hN:X.N.Nodup)(hi:X.N[i]? = some x)(hx:Loc X.env.scope x)(hf:X.fn x=true\/X.env.scope.names.lookup x=some .local:=by first|exact .inl rfl|exact .inr rfl|assumption): PG X (.Name x pos) (ka i):=by
 intro pins s σ H v u Q I r h;exact wpAny_assign_Name (q3p I hN hi hx r (fun s' I'=>⟨_,H,I',h⟩) hf)
def gNil:TGs:=fun vs σ H Q=>vs=[]/\Q σ H
def qjx(t:TG)(u:TGs): TGs:=fun vs σ H Q=>∃v r,vs=v :: r/\t v σ H fun σ' H'=>u r σ' H' Q
theorem q9k:PGs X [] gNil:=by
 intro pins s σ H vs us Q I r h;obtain⟨e,h⟩:=h;subst e;cases r;exact assignInOrder_nil ⟨σ,H,I,h⟩
theorem q3s{e:Expr}{es:List Expr}{t:TG}{u:TGs}(h1:PG X e t)(h2:PGs X es u)
  (hs:(assignEach (e :: es) X.env).map (·.2)=assign e X.env :: (assignEach es X.env).map (·.2):=by rfl):PGs X (e :: es) (qjx t u):=by
 intro pins s σ H vs us Q I r h;obtain⟨v,vr,e1,h⟩:=h;subst e1;cases r with
 | cons r rr=>
  rw [hs];refine assignInOrder_cons (thn (h1 pins s σ H _ _ _ I r h) fun _ s1 ⟨σ1,H1,I1,q1⟩=>?_);exact h2 pins s1 σ1 H1 _ _ Q I1 rr q1
def qkt(K:PySem.W.Frag)(n:Nat)(t:TGs): TG:=fun v σ H Q=>∃a xs,v=.ref a/\SqT K H a xs/\xs.length=n/\t xs σ H Q
theorem qbu{es:List Expr}{k:Nat}{t:TGs}{n:Nat}(hc:X.calm=true)(h:PGs X es t)
  (hn:(assignEach es X.env).length=n:=by rfl) (hst:(assignEach es X.env).findIdx? (·.1)=none:=by rfl):PG X (.Tuple es k pos) (qkt X.K n t):=by
 intro pins s σ H v u Q I r hw;obtain⟨a,xs,e1,hq,hl,hw⟩:=hw;subst e1;cases r;obtain⟨its,rv,ht,hz⟩:=I.tuple hq;refine assign_Tuple_tuple (I.ok.hd hc) ht (by simp [hn, <- hl,rv.length]) hst fun h' hx=>?_;have I1:Inv X pins σ H {s with heap:=h'}:=I.kept (t':=s.toks) fun b o e=>hx b o (mh (gp e)) e;exact h pins _ σ H xs _ Q I1 (by simpa using rv) hw
def qai(te:TE)(g:TG): TS:=fun D σ H=>te σ H fun x H1=>g x σ H1 D.nx
theorem qht{tg e:Expr}{te:TE}{g:TG}(he:PE X e te)(hg:PG X tg g)(hs:swapsWithSole [tg] e pos.line X.env=pure false:=by rfl)(hw:swappedStores [tg] e X.env=pure none:=by rfl)
  (h1:(assignEach [tg] X.env).map (·.2)=[assign tg X.env]:=by rfl):PS X (.Assign [tg] e pos) (qai te g):=by
 intro pins s σ H D I h;refine wpAny_Assign_stores (thn (he pins s σ H _ I h) fun v s1 ⟨x,H1,I1,r1,q1⟩=>?_) hs hw;rw [h1];exact thn (hg pins s1 σ H1 x v _ I1 r1 q1) fun _ s2 q=>q
theorem q76{i:Nat}{x:Str}{e:Expr}{te:TE}{pos':Pos}(hN:X.N.Nodup)(hi:X.N[i]? = some x)(hx:Loc X.env.scope x)(he:PE X e te)(hs:swapsWith e (some (.Name x pos')) pos.line X.env=pure false:=by rfl)(hf:X.fn x=true\/X.env.scope.names.lookup x=some .local:=by first|exact .inl rfl|exact .inr rfl|assumption):
  PS X (.Assign [.Name x pos'] e pos) (qai te (ka i)):=by
 intro pins s σ H D I h;refine wpAny_Assign_Name (thn (he pins s σ H _ I h) fun v s1 ⟨y,H1,I1,r1,q1⟩=>?_) hs;exact q3p I1 hN hi hx r1 (fun s2 I2=>⟨_,H1,I2,q1⟩) hf
end
section
variable{X:Cx}{pos:Pos}
end
structure It where
 go:Nat->Hp->Prop
 yld:Nat->Hp->V->Hp->Prop
 stop:Nat->Hp->Prop
def q03(X:Cx)(pins:List (Addr×Obj))(H:Hp)(b:Addr): Prop:=
 H b=none/\b≠X.env.locals/\b∉X.fs/\(b∈X.ex\/X.s₀.heap.objs.size<=b)/\(∀x c,X.env.cells.lookup x=some c->c≠b)/\∀p∈X.pn++pins,p.1≠b
theorem Inv.fpOk{X:Cx}{pins:List (Addr×Obj)}{σ : St}{H H':Hp}{s:Shared}{b:Addr}(I:Inv X pins σ H s)(hb:s.heap.objs.size<=b)(hn:H' b=none): q03 X pins H' b:=by
 refine⟨hn,uy (gw I.lt hb),I.nofs hb,.inr (ma I.sz hb),fun x c e z=>?_,fun p hp z=>?_⟩
 ·obtain⟨v,q⟩:=I.cell x c e
  exact absurd (gw q.lt (by rw [z];exact hb)) (pf _)
 ·exact absurd (gw (gp (I.pin p hp).1) (by rw [z];exact hb)) (pf _)
structure Turn(P:Program)(w:World)(K:PySem.W.Frag)(tg:Expr)(J:It)(fp:List Addr)(it:Addr)(tn:Nat->Heap->Prop): Prop where
 mem:it∈fp
 obj:∀i h,tn i h->∀b∈fp,∃o,h.get? b=some o/\∀v,o.data ≠ .cell v
 keep:∀i h h',tn i h->(∀b∈fp,∀o,h.get? b=some o->h'.get? b=some o)->tn i h'
 item:∀(X:Cx),X.prog=P->X.w=w->X.K=K->X.calm=true->∀(i:Nat) (pins:List (Addr×Obj)) (s:Shared) (σ : St) (H:Hp) (E:Value->Shared->Prop),Inv X pins σ H s->(∀b∈fp,q03 X pins H b)->tn i s.heap->J.go i H ->
  wpAny (model P w) X.A (pyNext (.ref it)) (fun r s1=>∃u,r=some u /\
   wpAny (model P w) X.A (letOwnedTupleGo tg (.ref it) u) (fun _ s2=>∃x H',Inv X pins σ H' s2/\RelV x u/\J.yld i H x H'/\tn (i+1) s2.heap/\∀b∈fp,H' b=none) E s1) E s
 done:∀(X:Cx),X.prog=P->X.w=w->X.K=K->X.calm=true->∀(i:Nat) (pins:List (Addr×Obj)) (s:Shared) (σ : St) (H:Hp) (E:Value->Shared->Prop),Inv X pins σ H s->(∀b∈fp,q03 X pins H b)->tn i s.heap->J.stop i H ->
  wpAny (model P w) X.A (pyNext (.ref it)) (fun r s1=>r=none/\Inv X pins σ H s1) E s
 self:∀(A:Around) (i:Nat) (s:Shared) (Q:Value->Shared->Prop) (E:Value->Shared->Prop),tn i s.heap->Q (.ref it) s->wpAny (model P w) A (pyIter (.ref it)) Q E s
abbrev TI:=St->Hp->(It->Hp->Prop)->Prop
def PIE(X:Cx)(pins:List (Addr×Obj))(σ : St)(tg:Expr)(R:It->Hp->Prop)(itv:Value)(s2:Shared): Prop:=
 ∃(it:Addr) (fp:List Addr) (tn:Nat->Heap->Prop) (J:It) (H':Hp),itv=.ref it/\Inv X pins σ H' s2/\Turn X.prog X.w X.K tg J fp it tn/\tn 0 s2.heap/\(∀b∈fp,q03 X pins H' b)/\R J H'
def PI(X:Cx)(tg iter:Expr)(wi:TI): Prop:=
 ∀(pins:List (Addr×Obj)) (s:Shared) (σ : St) (H:Hp) (R:It->Hp->Prop),Inv X pins σ H s->wi σ H R ->
  wpAny (model X.prog X.w) X.A (eval iter X.env) (fun v s1=>wpAny (model X.prog X.w) X.A (pyIter v) (PIE X pins σ tg R) X.xe s1) X.xe s
theorem q6v{M:Model}{A:Around}{E:Value->Shared->Prop}{s:Shared}{tg:Expr}{it:Addr}{u:Value}{o:Obj}{n:String}{vs:Array Value}{Q:Unit->Shared->Prop}(ho:s.heap.get? it=some o)(hc:o.cls=.type n)(hd:o.data=.fields vs)
  (hn:["enumerate","zip","dict_itemiterator","dict_reverseitemiterator","odict_iterator","itertools.zip_longest","itertools.pairwise"].contains n=false) (hQ:Q () s):wpAny M A (letOwnedTupleGo tg (.ref it) u) Q E s:=by
 unfold letOwnedTupleGo;cases tg <;> first
  | exact gd hQ
  | (cases u <;> first
    | exact gd hQ
    | (refine g9 (wpAny_load ho ?_);rw [hc,hd];show wpAny M A (if(["enumerate","zip","dict_itemiterator","dict_reverseitemiterator","odict_iterator","itertools.zip_longest","itertools.pairwise"].contains n&&vs[0]? == some (rawInt _))=true then _ else _) Q E s;rw [mf (by intro h;rw [hn,Bool.false_and] at h;cases h)];exact gd hQ))
def Itl(K:PySem.W.Frag)(a:Addr): It:=
 ⟨fun i H=>∃xs x,SqL K H a xs/\xs[i]? = some x,fun i H x H'=>H'=H/\∀xs,SqL K H a xs->xs[i]? = some x,fun i H=>∃xs,SqL K H a xs/\xs.length<=i⟩
def Itt(K:PySem.W.Frag)(a:Addr): It:=
 ⟨fun i H=>∃xs x,SqT K H a xs/\xs[i]? = some x,fun i H x H'=>H'=H/\∀xs,SqT K H a xs->xs[i]? = some x,fun i H=>∃xs,SqT K H a xs/\xs.length<=i⟩
def Itr(lo:Int)(n:Nat): It:=⟨fun i _=>i<n,fun i H x H'=>H'=H/\x=.int (lo+i),fun i _=>n<=i⟩
theorem qbv{P:Program}{w:World}{K:PySem.W.Frag}{tg:Expr}(a it:Addr): Turn P w K tg (Itl K a) [it] it (fun i h=>h.IsListIter it a i) where
 mem:=by simp
 obj:=fun i h st b hb=>by
  have e:b=it:=by simpa using hb
  subst e;obtain⟨o,e,c,d⟩:=st;exact⟨o,e,fun v z=>by rw [d] at z;cases z⟩
 keep:=fun i h h' st k=>st.at fun o e=>k it (by simp) o e
 item:=by
  intro X hP hw hK hc i pins s σ H E I hf st hg;subst hP hw hK;obtain⟨xs,x,hq,hx⟩:=hg;obtain⟨its,rv,p,hz⟩:=I.list hq;obtain⟨u,hu,ru⟩:=rv.get hx;obtain⟨f0,f1,f2,f3,f4,f5⟩:=hf it (by simp);refine wpAny_pyNext_list_item st p.isList (x:=u) (by simpa using hu) fun h' st' sb=>?_;have I1:Inv X pins σ H {s with heap:=h'}:=I.turned (t':=s.toks) (fun b o hb e=>(sb.2 b hb).trans e) f0 f1 f3 f4 f5;obtain⟨o,e,c,d⟩:=id st';exact⟨u,rfl,q6v (s:={s with heap:=h'}) e c d (by decide) ⟨x,H,I1,ru,⟨rfl,fun ys hy=>by rw [I.list_inj hy hq];exact hx⟩,st',fun b hb=>(hf b hb).1⟩⟩
 done:=by
  intro X hP hw hK hc i pins s σ H E I hf st hg;subst hP hw hK;obtain⟨xs,hq,hx⟩:=hg;obtain⟨its,rv,p,hz⟩:=I.list hq;obtain⟨f0,f1,f2,f3,f4,f5⟩:=hf it (by simp);have hl:=rv.length;exact wpAny_pyNext_list_end (I.ok.hd hc) st p.isList (by simp;omega) fun h' eb=>⟨rfl,I.turned (t':=s.toks) (fun b o hb e=>eb b o hb e) f0 f1 f3 f4 f5⟩
 self:=fun _ _ _ _ _ st h=>wpAny_pyIter_listiter st h
theorem qaj{P:Program}{w:World}{K:PySem.W.Frag}{tg:Expr}(a it:Addr): Turn P w K tg (Itt K a) [it] it (fun i h=>h.IsTupleIter it a i) where
 mem:=by simp
 obj:=fun i h st b hb=>by
  have e:b=it:=by simpa using hb
  subst e;obtain⟨o,e,c,d⟩:=st;exact⟨o,e,fun v z=>by rw [d] at z;cases z⟩
 keep:=fun i h h' st k=>st.at fun o e=>k it (by simp) o e
 item:=by
  intro X hP hw hK hc i pins s σ H E I hf st hg;subst hP hw hK;obtain⟨xs,x,hq,hx⟩:=hg;obtain⟨its,rv,p,hz⟩:=I.tuple hq;obtain⟨u,hu,ru⟩:=rv.get hx;obtain⟨f0,f1,f2,f3,f4,f5⟩:=hf it (by simp);refine wpAny_pyNext_tuple_item st (show s.heap.IsTuple a its.toArray from p) (x:=u) (by simpa using hu) fun h' st' sb=>?_;have I1:Inv X pins σ H {s with heap:=h'}:=I.turned (t':=s.toks) (fun b o hb e=>(sb.2 b hb).trans e) f0 f1 f3 f4 f5;obtain⟨o,e,c,d⟩:=id st';exact⟨u,rfl,q6v (s:={s with heap:=h'}) e c d (by decide) ⟨x,H,I1,ru,⟨rfl,fun ys hy=>by rw [I.tuple_inj hy hq];exact hx⟩,st',fun b hb=>(hf b hb).1⟩⟩
 done:=by
  intro X hP hw hK hc i pins s σ H E I hf st hg;subst hP hw hK;obtain⟨xs,hq,hx⟩:=hg;obtain⟨its,rv,p,hz⟩:=I.tuple hq;obtain⟨f0,f1,f2,f3,f4,f5⟩:=hf it (by simp);have hl:=rv.length;exact wpAny_pyNext_tuple_end (I.ok.hd hc) st (show s.heap.IsTuple a its.toArray from p) (by simp;omega) fun h' eb=>⟨rfl,I.turned (t':=s.toks) (fun b o hb e=>eb b o hb e) f0 f1 f3 f4 f5⟩
 self:=fun _ _ _ _ _ st h=>wpAny_pyIter_tupleiter st h
theorem qak{P:Program}{w:World}{K:PySem.W.Frag}{tg:Expr}(it:Addr)(lo:Int)(n:Nat): Turn P w K tg (Itr lo n) [it] it (fun i h=>IsRangeIter h it (lo+(i:Nat)*1) ((n:Int)-(i:Nat)) 1) where
 mem:=by simp
 obj:=fun i h st b hb=>by
  have e:b=it:=by simpa using hb
  subst e;exact⟨_,st,fun v z=>by
   have z':Data.fields _=Data.cell v:=z;cases z'⟩
 keep:=fun i h h' st k=>k it (by simp) _ st
 item:=by
  intro X hP hw hK hc i pins s σ H E I hf st hg;subst hP hw hK;obtain⟨f0,f1,f2,f3,f4,f5⟩:=hf it (by simp);have W:=Walks.range (prog:=X.prog) (w:=X.w) (I.ok.hd hc) it lo 1 n;refine W.item i s _ _ hg st fun v h' tk hv st' kk=>?_;obtain⟨t,rfl⟩:=hv;have I1:Inv X pins σ H {s with heap:=h',toks:=tk}:=I.turned (fun b o hb e=>kk b o (by simpa using hb) e) f0 f1 f3 f4 f5;refine⟨_,rfl,q6v (s:={s with heap:=h',toks:=tk}) (n:="range_iterator") st' rfl rfl (by decide) ⟨.int (lo+i),H,I1,⟨t,?_⟩,⟨rfl,rfl⟩,st',fun b hb=>(hf b hb).1⟩⟩;rw [Int.mul_one]
 done:=by
  intro X hP hw hK hc i pins s σ H E I hf st hg;subst hP hw hK;obtain⟨f0,f1,f2,f3,f4,f5⟩:=hf it (by simp);exact wpAny_pyNext_range_end (I.ok.hd hc) st (by have:n<=i:=hg;omega) fun h' eb=>⟨rfl,I.turned (t':=s.toks) (fun b o hb e=>eb b o hb e) f0 f1 f3 f4 f5⟩
 self:=fun _ _ _ _ _ st h=>wpAny_pyIter_rangeiter st h
section
variable{X:Cx}{tg:Expr}
theorem q77{pins:List (Addr×Obj)}{σ : St}{H:Hp}{s:Shared}{R:It->Hp->Prop}{E:Value->Shared->Prop}{lo hi:Int}{t u v:Tok}{tk:Nat}(I:Inv X pins σ H s)(h1 : -(2 ^ 62)<=lo)(h2:lo<2 ^ 62)(h3 : -(2 ^ 62)<=hi)(h4:hi<2 ^ 62)
  (q:R (Itr lo (hi-lo).toNat) H):wpAny (model X.prog X.w) X.A (pyIter (.ref s.heap.objs.size)) (PIE X pins σ tg R) E {s with heap:=s.heap.push {cls:=.type "range",data:=.fields #[.int lo t,.int hi u,.int 1 v]},toks:=tk}:=by
 refine wpAny_pyIter_range (IsRange.new ..) (small_one h1 h2 h3 h4) ?_;have I1:Inv X pins σ H {s with heap:=s.heap.push {cls:=.type "range",data:=.fields #[.int lo t,.int hi u,.int 1 v]},toks:=tk}:=I.kept fun b o e=>gb _ e;refine⟨(s.heap.push {cls:=.type "range",data:=.fields #[.int lo t,.int hi u,.int 1 v]}).objs.size,[(s.heap.push {cls:=.type "range",data:=.fields #[.int lo t,.int hi u,.int 1 v]}).objs.size],_,_,H,rfl,
  I1.kept (t':=tk) fun b o e=>gb _ e,qak _ lo (hi-lo).toNat,?_,fun b hb=>?_,q⟩
 ·have e1:lo+((0:Nat):Int)*1=lo:=by simp
  have e2:(((hi-lo).toNat:Nat):Int)-((0:Nat):Int)=Builtin.Range.rangeSize lo hi 1:=by rw [rangeSize_one];split <;> omega
  show IsRangeIter _ _ (lo+((0:Nat):Int)*1) ((((hi-lo).toNat:Nat):Int)-((0:Nat):Int)) 1;rw [e1,e2];exact m4 _ rfl
 ·have e:b=(s.heap.push {cls:=.type "range",data:=.fields #[.int lo t,.int hi u,.int 1 v]}).objs.size:=by simpa using hb
  subst e;exact I1.fpOk (gm _) (I1.hok.fresh (gm _))
def qjy(ta:TA): TI:=fun σ H R=>ta σ H fun vs H1=>∃j:Int,vs=[.int j] /\ -(2 ^ 62)<=j/\j<2 ^ 62/\R (Itr 0 j.toNat) H1
def qjz(ta:TA): TI:=fun σ H R=>ta σ H fun vs H1=>∃i j:Int,vs=[.int i,.int j]/\(-(2 ^ 62)<=i/\i<2 ^ 62 /\ -(2 ^ 62)<=j/\j<2 ^ 62)/\R (Itr i (j-i).toNat) H1
theorem qbw{a:Expr}{ta:TA}{p pos:Pos}(hg:Gl X "range")(hm:X.mg "range" = none)(ha:PA X [a] ta)(hs:starEach [a] X.env=[(false,eval a X.env)]:=by rfl): PI X tg (.Call (.Name "range" p) [a] [] pos) (qjy ta):=by
 intro pins s σ H R I h;refine Call_ (q02 I hg hm boot_range (nt (thn (ha pos pins s σ H _ I h) fun us s1 ⟨vs,H1,I1,r1,q1⟩=>?_) hs rfl));obtain⟨j,e,q1,q2,q⟩:=q1;subst e;cases r1 with
 | cons r rr=>
  cases rr;obtain⟨t,rfl⟩:=r;exact call_range_1 (q77 I1 (by omega) (by omega) q1 q2 (by simpa using q))
theorem qbx{a b:Expr}{ta:TA}{p pos:Pos}(hg:Gl X "range")(hm:X.mg "range" = none)(ha:PA X [a,b] ta)(hs:starEach [a,b] X.env=[(false,eval a X.env),(false,eval b X.env)]:=by rfl)(hs2:starEach [b] X.env=[(false,eval b X.env)]:=by rfl):
  PI X tg (.Call (.Name "range" p) [a,b] [] pos) (qjz ta):=by
 intro pins s σ H R I h;refine Call_ (q02 I hg hm boot_range (nt (thn (ha pos pins s σ H _ I h) fun us s1 ⟨vs,H1,I1,r1,q1⟩=>?_) (by rw [hs,hs2]) (by rw [hs2];rfl)));obtain⟨i,j,e,⟨q1,q2,q3,q4⟩,q⟩:=q1;subst e;cases r1 with
 | cons r rr=>
  cases rr with
  | cons r' rr=>
   cases rr;obtain⟨t,rfl⟩:=r;obtain⟨t',rfl⟩:=r';exact call_range_2 (q77 I1 q1 q2 q3 q4 q)
def qku(wi:TI)(g:TG)(tb:TS): TS:=fun D σ H=>wi σ H fun J H1=>∃W:Nat->Nat->St->Hp->Prop,(∃m,W 0 m σ H1)/\∀i m σ H,W i m σ H ->
 (J.stop i H/\D.nx σ H)\/(J.go i H/\∃N:St->Hp->Prop,(∀ σ' H',N σ' H'->∃m',m'<m/\W (i+1) m' σ' H')/\∀x H',J.yld i H x H'->g x σ H' fun σ2 H2=>tb {D with nx:=N,ct:=N,bk:=D.nx} σ2 H2)
def q12(fp:List Addr)(h:Heap): List (Addr×Obj):=fp.filterMap fun b=>(h.get? b).map fun o=>(b,o)
theorem wc{fp:List Addr}{h:Heap}{b:Addr}{o:Obj}(hb:b∈fp)(e:h.get? b=some o): (b,o)∈q12 fp h:=List.mem_filterMap.mpr ⟨b,hb,by rw [e];rfl⟩
theorem qby{fp:List Addr}{h:Heap}{p:Addr×Obj}(hp:p∈q12 fp h): p.1∈fp/\h.get? p.1=some p.2:=by
 obtain⟨b,hb,e⟩:=List.mem_filterMap.mp hp;cases q:h.get? b with
 | none=>rw [q] at e;cases e
 | some o=>
  rw [q] at e;have e':(b,o)=p:=mi e;subst e';exact⟨hb,q⟩
theorem Inv.pinned{pins:List (Addr×Obj)}{σ : St}{H:Hp}{s:Shared}{fp:List Addr}(I:Inv X pins σ H s)(hf:∀b∈fp,q03 X pins H b)(ho:∀b∈fp,∃o,s.heap.get? b=some o/\∀v,o.data ≠ .cell v): Inv X (pins++q12 fp s.heap) σ H s:=
 I.pins_of fun p hp=>(nh.mp hp).elim (fun z=>I.pin p (md _ z)) fun z=>by
  obtain⟨hb,e⟩:=qby z;obtain⟨f0,f1,f2,_⟩:=hf p.1 hb;obtain⟨o,e',d⟩:=ho p.1 hb;rw [e] at e';cases e';exact⟨e,f0,f1,f2,d⟩
theorem Inv.unpinned{pins pl:List (Addr×Obj)}{σ : St}{H:Hp}{s:Shared}(I:Inv X (pins++pl) σ H s): Inv X pins σ H s:=I.pins_of fun p hp=>I.pin p (md _ (List.mem_append_left _ hp))
theorem q78{iter:Expr}{body:List Stmt}{wi:TI}{g:TG}{tb:TS}{pos:Pos}(hp:PassesOwn (model X.prog X.w) X.A X.env X.xe)(hc:X.calm=true)(hi:PI X tg iter wi)(hg:PG X tg g)(hb:PSs X body tb)
  (hs:∀x,foldedSetIterable iter X.env x=pure x:=by intro _;rfl):PS X (.For tg iter body [] pos) (qku wi g tb):=by
 intro pins s σ H D I h;refine wpAny_For (thn (hi pins s σ H _ I h) fun v s1 h1=>thn h1 fun itv s2 h2=>?_) hs;obtain⟨it,fp,tn,J,H2,e,I2,T,st2,f2,W,⟨m0,w0⟩,turn⟩:=h2;subst e
 -- what stays true of the iterator's objects through the loop
 have stat:∀ {H':Hp},(∀b∈fp,H' b=none)->∀b∈fp,q03 X pins H' b:=fun hn b hb=>⟨hn b hb,(f2 b hb).2⟩
 refine codeAny_forLoop_any (fun n s'=>∃i σ' H',Inv X pins σ' H' s'/\tn i s'.heap/\(∀b∈fp,H' b=none)/\W i n σ' H') ?_ m0 ⟨0, σ,H2,I2,st2,fun b hb=>(f2 b hb).1,w0⟩
 rintro n s3 ⟨i, σ3,H3,I3,st3,fr3,w3⟩
 rcases turn i n σ3 H3 w3 with⟨stop,qn⟩|⟨go,N,hN,step⟩
 ·refine tx hp (thn (T.done X rfl rfl rfl hc i pins s3 σ3 H3 X.xe I3 (stat fr3) st3 stop) fun r s4 ⟨hr,I4⟩=>?_)
  subst hr;exact g1b ⟨σ3,H3,I4,qn⟩
 ·refine tx hp (thn (T.item X rfl rfl rfl hc i pins s3 σ3 H3 X.xe I3 (stat fr3) st3 go) fun r s4 ⟨u,hr,h4⟩=>?_)
  subst hr;refine tx hp (thn h4 fun _ s5 ⟨x,H5,I5,r5,y5,st5,fr5⟩=>?_);have I5':=I5.pinned (stat fr5) (T.obj _ _ st5);refine tx hp (thn (hg _ s5 σ3 H5 x u _ I5' r5 (step x H5 y5)) fun _ s6 ⟨σ6,H6,I6,q6⟩=>?_);refine tx hp (thn (hb _ s6 σ6 H6 _ I6 q6) fun f s7 q7=>?_);have again:∀ {σ7:St} {H7:Hp},Inv X (pins++q12 fp s5.heap) σ7 H7 s7->N σ7 H7->∃m,m<n/\∃i σ' H',Inv X pins σ' H' s7/\tn i s7.heap/\(∀b∈fp,H' b=none)/\W i m σ' H':=fun {σ7 H7} I7 n7=>by
   obtain⟨m',hm,w7⟩:=hN σ7 H7 n7;refine⟨m',hm,i+1, σ7,H7,I7.unpinned,T.keep _ _ _ st5 fun b hb o e=>(I7.pin (b,o) (md _ (md _ (wc hb e)))).1,fun b hb=>?_,w7⟩;obtain⟨o,e,d⟩:=T.obj _ _ st5 b hb;exact(I7.pin (b,o) (md _ (md _ (wc hb e)))).2.1
  cases f with
  | next=>obtain⟨σ7,H7,I7,n7⟩:=q7;exact again I7 n7
  | cont=>obtain⟨σ7,H7,I7,n7⟩:=q7;exact again I7 n7
  | brk=>obtain⟨σ7,H7,I7,q7⟩:=q7;exact⟨σ7,H7,I7.unpinned,q7⟩
  | ret v=>obtain⟨x7, σ7,H7,I7,r7,q7⟩:=q7;exact⟨x7, σ7,H7,I7.unpinned,r7,q7⟩
end
abbrev R2:=V->V->Hp->VK->Prop
def OpR(X:Cx)(f:Value->Value->Sem Value)(r:R2): Prop:=
 ∀(pins:List (Addr×Obj)) (s:Shared) (σ : St) (H:Hp) (x y:V) (v u:Value) (Q:VK),Inv X pins σ H s->RelV x v->RelV y u->r x y H Q ->
  wpAny (model X.prog X.w) X.A (f v u) (EP X pins σ Q) X.xe s
def zm(X:Cx)(f:Value)(r:List V->Hp->VK->Prop): Prop:=
 ∀(pins:List (Addr×Obj)) (s:Shared) (σ : St) (H:Hp) (xs:List V) (us:List Value) (Q:VK),Inv X pins σ H s->Vals xs us->r xs H Q ->
  wpAny (model X.prog X.w) X.A (call f us) (EP X pins σ Q) X.xe s
def qkv(X:Cx)(r:V->Hp->(Bool->Hp->Prop)->Prop): Prop:=
 ∀(pins:List (Addr×Obj)) (s:Shared) (σ : St) (H:Hp) (x:V) (v:Value) (Q:Bool->Hp->Prop),Inv X pins σ H s->RelV x v->r x H Q ->
  wpAny (model X.prog X.w) X.A (truthy v) (TP X pins σ Q) X.xe s
def tOp(r:R2)(ta tb:TE): TE:=fun σ H Q=>ta σ H fun x H1=>tb σ H1 fun y H2=>r x y H2 Q
def rI(C:Int->Int->Prop)(g:Int->Int->V): R2:=fun x y H Q=>∃i j,x=.int i/\y=.int j/\C i j/\Q (g i j) H
def rI0(g:Int->Int->V): R2:=fun x y H Q=>∃i j,x=.int i/\y=.int j/\Q (g i j) H
section
variable{X:Cx}{a b c:Expr}{ta tb tc:TE}{pos:Pos}
theorem qdq(ha:PE X a ta)(hb:PE X b tb){pins:List (Addr×Obj)}{s:Shared}{σ : St}{H:Hp}{R:V->V->Hp->Prop}(I:Inv X pins σ H s)
  (h:ta σ H fun x H1=>tb σ H1 fun y H2=>R x y H2) {Q:Value->Shared->Prop} {f:Value->Value->Sem Value}
  (hf:∀v u s2 x y H2,Inv X pins σ H2 s2->RelV x v->RelV y u->R x y H2->wpAny (model X.prog X.w) X.A (f v u) Q X.xe s2) :
  wpAny (model X.prog X.w) X.A (eval a X.env) (fun v s₁=>wpAny (model X.prog X.w) X.A (eval b X.env) (fun u s₂=>wpAny (model X.prog X.w) X.A (f v u) Q X.xe s₂) X.xe s₁) X.xe s:=by
 refine thn (ha pins s σ H _ I h) fun v s1 ⟨x,H1,I1,r1,q1⟩=>?_;refine thn (hb pins s1 σ H1 _ I1 q1) fun u s2 ⟨y,H2,I2,r2,q2⟩=>?_;exact hf v u s2 x y H2 I2 r1 r2 q2
theorem qk0{op:Operator}{r:R2}(ho:OpR X (binaryOp op) r)(ha:PE X a ta)(hb:PE X b tb): PE X (.BinOp a op b pos) (tOp r ta tb):=by
 intro pins s σ H Q I h;exact wpAny_BinOp (qdq ha hb I h fun v u s2 x y H2 I2 rx ry q=>ho pins s2 σ H2 x y v u Q I2 rx ry q)
theorem opI{f:Value->Value->Sem Value}{C:Int->Int->Prop}{g:Int->Int->Int}
  (rule:∀(i j:Int) (t u:Tok) (s:Shared) (Q:Value->Shared->Prop) (E:Value->Shared->Prop),C i j->Q (.int (g i j) s.toks) {s with toks:=s.toks+1}->wpAny (model X.prog X.w) X.A (f (.int i t) (.int j u)) Q E s) :
  OpR X f (rI C fun i j=>.int (g i j)):=by
 intro pins s σ H x y v u Q I rx ry h;obtain⟨i,j,rfl,rfl,hc,q⟩:=h;obtain⟨t,rfl⟩:=rx;obtain⟨t',rfl⟩:=ry;exact rule i j t t' s _ _ hc ⟨.int (g i j),H,I.tok _,⟨_,rfl⟩,q⟩
theorem qhu{f:Value->Value->Sem Value}{g:Int->Int->Int}
  (rule:∀(i j:Int) (t u:Tok) (s:Shared) (Q:Value->Shared->Prop) (E:Value->Shared->Prop),Q (.int (g i j) s.toks) {s with toks:=s.toks+1}->wpAny (model X.prog X.w) X.A (f (.int i t) (.int j u)) Q E s) :
  OpR X f (rI0 fun i j=>.int (g i j)):=by
 intro pins s σ H x y v u Q I rx ry h;obtain⟨i,j,rfl,rfl,q⟩:=h;obtain⟨t,rfl⟩:=rx;obtain⟨t',rfl⟩:=ry;exact rule i j t t' s _ _ ⟨.int (g i j),H,I.tok _,⟨_,rfl⟩,q⟩
theorem qhv{f:Value->Value->Sem Value}{g:Int->Int->Bool}
  (rule:∀(i j:Int) (t u:Tok) (s:Shared) (Q:Value->Shared->Prop) (E:Value->Shared->Prop),Q (.bool (g i j)) s->wpAny (model X.prog X.w) X.A (f (.int i t) (.int j u)) Q E s) :
  OpR X f (rI0 fun i j=>.bl (g i j)):=by
 intro pins s σ H x y v u Q I rx ry h;obtain⟨i,j,rfl,rfl,q⟩:=h;obtain⟨t,rfl⟩:=rx;obtain⟨t',rfl⟩:=ry;exact rule i j t t' s _ _ ⟨.bl (g i j),H,I,rfl,q⟩
def qkw(i j:Int): Prop:=0<j/\j<1073741824
def qkx(i j:Int): Prop:=0<=j/\j<=1000000/\i.natAbs<2 ^ 64
def CMul(i j:Int): Prop:=(-(2 ^ 64)<i/\i<2 ^ 64)\/(-(2 ^ 64)<j/\j<2 ^ 64)
theorem CMul.ok{i j:Int}(h:CMul i j): IntMulOk i j:=by
 rcases h with⟨h1,h2⟩|⟨h1,h2⟩
 ·exact .of_left (intBits_le_64 h1 h2)
 ·exact .of_right (intBits_le_64 h1 h2)
theorem qhw:OpR X (binaryOp .Add) (rI0 fun i j=>.int (i+j)):=qhu fun _ _ _ _ _ _ _ q=>add_int q
theorem qhx:OpR X (binaryOp .Sub) (rI0 fun i j=>.int (i-j)):=qhu fun _ _ _ _ _ _ _ q=>sub_int q
theorem qhy:OpR X (binaryOp .Mult) (rI CMul fun i j=>.int (i*j)):=opI fun _ _ _ _ _ _ _ hc q=>mul_int q hc.ok
theorem qfw:OpR X (binaryOp .FloorDiv) (rI qkw fun i j=>.int (i / j)):=opI fun i j _ _ _ _ _ hc q=>by
 have h1:(0:Int)<j:=hc.1;have h2:j<1073741824:=hc.2;exact floordiv_int (by omega) (by rw [Int.fdiv_eq_ediv_of_nonneg i (by omega)];exact q) (.inl (PyProof.noPylong_small (by omega)))
theorem qhz:OpR X (binaryOp .Mod) (rI (fun _ j=>0<j) fun i j=>.int (i%j)):=opI fun i j _ _ _ _ _ hc q=>by
 have h1:(0:Int)<j:=hc;exact mod_int' (by omega) (by rw [Int.fmod_eq_emod_of_nonneg i (by omega)];exact q)
theorem qi0:OpR X (binaryOp .Pow) (rI qkx fun i j=>.int (i ^ j.toNat)):=opI fun _ _ _ _ _ _ _ hc q=>pow_int_small hc.1 hc.2.1 hc.2.2 q
end
def q59:V->V->Bool
 | .non,.non=>true | .non,.int _=>true | .int _,.non=>true | .non,.bl _=>true | .bl _,.non=>true | .non,.str _=>true | .str _,.non=>true
 | .int _,.int _=>true | .bl _,.bl _=>true | .str _,.str _=>true | .byt _,.byt _=>true
 | .int _,.str _=>true | .str _,.int _=>true | .bl _,.str _=>true | .str _,.bl _=>true
 | _,_=>false
def rEq:R2:=fun x y H Q=>q59 x y=true/\Q (.bl (decide (x=y))) H
theorem qfx{i j:Int}: decide (V.int i=V.int j)=(i==j):=by
 rw [uz];simp
theorem qi1{i j:Bool}: decide (V.bl i=V.bl j)=(i==j):=by
 rw [uz];simp
theorem q5a{i j:Str}: decide (V.str i=V.str j)=(i==j):=by
 rw [uz];simp
theorem qfy{i j:Array UInt8}: decide (V.byt i=V.byt j)=(i.toList==j.toList):=by
 rw [uz];cases i;cases j;simp
section
variable{X:Cx}{a b c:Expr}{ta tb tc:TE}{pos:Pos}
theorem jf{pins:List (Addr×Obj)}{σ : St}{H:Hp}{s:Shared}{Q:VK}{k k':Bool}(I:Inv X pins σ H s)(q:Q (.bl k) H)(e:k=k'): EP X pins σ Q (.bool k') s:=by
 subst e;exact⟨.bl k,H,I,rfl,q⟩
theorem qk1:OpR X (compareOp .Eq) rEq:=by
 intro pins s σ H x y v u Q I rx ry h;obtain⟨hs,q⟩:=h;cases x with
 | non=>
  cases rx;cases y with
  | non=>cases ry;exact PySem.EqNone.eq_none_none (jf I q (by simp))
  | bl j=>cases ry;exact PySem.EqNone.eq_none_bool (jf I q (by simp))
  | int j=>obtain⟨t',rfl⟩:=ry;exact PySem.EqNone.eq_none_int (jf I q (by simp))
  | str j=>obtain⟨t',rfl⟩:=ry;exact PySem.EqNone.eq_none_str (jf I q (by simp))
  | _=>exact absurd (show false=true from hs) gx
 | bl i=>
  cases rx;cases y with
  | non=>cases ry;exact PySem.EqNone.eq_bool_none (jf I q (by simp))
  | bl j=>cases ry;exact eq_bool (jf I q qi1)
  | str j=>obtain⟨t',rfl⟩:=ry;exact PySem.EqMixed.eq_bool_str (jf I q (by simp))
  | _=>exact absurd (show false=true from hs) gx
 | int i=>
  obtain⟨t,rfl⟩:=rx;cases y with
  | non=>cases ry;exact PySem.EqNone.eq_int_none (jf I q (by simp))
  | int j=>obtain⟨t',rfl⟩:=ry;exact eq_int (jf I q qfx)
  | str j=>obtain⟨t',rfl⟩:=ry;exact PySem.EqMixed.eq_int_str (jf I q (by simp))
  | _=>exact absurd (show false=true from hs) gx
 | str i=>
  obtain⟨t,rfl⟩:=rx;cases y with
  | non=>cases ry;exact PySem.EqNone.eq_str_none (jf I q (by simp))
  | bl j=>cases ry;exact PySem.EqMixed.eq_str_bool (jf I q (by simp))
  | int j=>obtain⟨t',rfl⟩:=ry;exact PySem.EqMixed.eq_str_int (jf I q (by simp))
  | str j=>obtain⟨t',rfl⟩:=ry;exact eq_str (jf I q q5a)
  | _=>exact absurd (show false=true from hs) gx
 | byt i=>
  obtain⟨t,rfl⟩:=rx;cases y with
  | byt j=>obtain⟨t',rfl⟩:=ry;exact PySem.W.eq_bytes (jf I q qfy)
  | _=>exact absurd (show false=true from hs) gx
 | _=>cases y <;> exact absurd (show false=true from hs) gx
theorem qk2:OpR X (compareOp .LtE) (rI0 fun i j=>.bl (decide (i<=j))):=qhv fun _ _ _ _ _ _ _ q=>le_int q
theorem qk3:OpR X (compareOp .Gt) (rI0 fun i j=>.bl (decide (j<i))):=qhv fun _ _ _ _ _ _ _ q=>gt_int q
theorem qbz:OpR X (compareOp .In) (fun x y H Q=>∃i j,x=.str i/\y=.str j/\Q (.bl (!(Builtin.Str.occurrences j i 0 j.length 1).isEmpty)) H):=by
 intro pins s σ H x y v u Q I rx ry h;obtain⟨i,j,rfl,rfl,q⟩:=h;obtain⟨t,rfl⟩:=rx;obtain⟨t',rfl⟩:=ry;exact in_str (jf I q rfl)
theorem qfz{op:CmpOp}{r:R2}(ho:OpR X (compareOp op) r)(ha:PE X a ta)(hb:PE X b tb)(hm:behindInMarks op b=false): PE X (.Compare a [op] [b] pos) (tOp r ta tb):=by
 intro pins s σ H Q I h;exact wpAny_Compare1 (qdq ha hb I h fun v u s2 x y H2 I2 rx ry q=>ho pins s2 σ H2 x y v u Q I2 rx ry q) hm
def qfe(t:TE): TT:=fun σ H Q=>t σ H fun x H'=>∃k,x=.bl k/\Q k H'
theorem qg0{op:CmpOp}{r:R2}(ho:OpR X (compareOp op) r)(ha:PE X a ta)(hb:PE X b tb)(hm:behindInMarks op b=false): PT X (.Compare a [op] [b] pos) (qfe (tOp r ta tb)):=by
 intro pins s σ H Q I h;refine wpAny_isTrue_Compare1 (thn (ha pins s σ H _ I h) fun v s1 ⟨x,H1,I1,r1,q1⟩=>thn (hb pins s1 σ H1 _ I1 q1) fun u s2 ⟨y,H2,I2,r2,q2⟩=>
  thn (ho pins s2 σ H2 x y v u _ I2 r1 r2 q2) fun c s3 ⟨z,H3,I3,r3,k,e,q3⟩=>?_) hm
 subst e;cases r3;exact p7 ⟨H3,I3,q3⟩
def q79(r r':R2)(ta tb tc:TE): TE:=fun σ H Q=>ta σ H fun x H1=>tb σ H1 fun y H2=>r x y H2 fun z H3=>∃k,z=.bl k /\
 (if k=true then tc σ H3 fun w' H4=>r' y w' H4 Q else Q (.bl false) H3)
theorem qdr{op op':CmpOp}{r r':R2}(ho:OpR X (compareOp op) r)(ho':OpR X (compareOp op') r')(ha:PE X a ta)(hb:PE X b tb)(hc:PE X c tc)
  (hm:lastMarks [op,op'] [b,c]=false:=by with_unfolding_all rfl):PE X (.Compare a [op,op'] [b,c] pos) (q79 r r' ta tb tc):=by
 intro pins s σ H Q I h;refine Compare_chain (thn (ha pins s σ H _ I h) fun v s1 ⟨x,H1,I1,r1,q1⟩=>chain_link (thn (hb pins s1 σ H1 _ I1 q1) fun u s2 ⟨y,H2,I2,r2,q2⟩=>
  thn (ho pins s2 σ H2 x y v u _ I2 r1 r2 q2) fun d s3 ⟨z,H3,I3,r3,k,e,q3⟩=>?_)) hm
 subst e;cases r3;refine p7 ?_;cases k with
 | false=>exact ite_ff ⟨.bl false,H3,I3,rfl,q3⟩
 | true=>exact ite_tt (chain_last (thn (hc pins s3 σ H3 _ I3 q3) fun w' s4 ⟨z',H4,I4,r4,q4⟩=>ho' pins s4 σ H4 y z' u w' Q I4 r2 r4 q4))
theorem qds{op op':CmpOp}{r r':R2}(ho:OpR X (compareOp op) r)(ho':OpR X (compareOp op') r')(ha:PE X a ta)(hb:PE X b tb)(hc:PE X c tc)
  (hm:lastMarks [op,op'] [b,c]=false:=by with_unfolding_all rfl):PT X (.Compare a [op,op'] [b,c] pos) (qfe (q79 r r' ta tb tc)):=by
 intro pins s σ H Q I h;refine isTrue_chain (thn (ha pins s σ H _ I h) fun v s1 ⟨x,H1,I1,r1,q1⟩=>test_link (thn (hb pins s1 σ H1 _ I1 q1) fun u s2 ⟨y,H2,I2,r2,q2⟩=>
  thn (ho pins s2 σ H2 x y v u _ I2 r1 r2 q2) fun d s3 ⟨z,H3,I3,r3,k,e,q3⟩=>?_)) hm
 subst e;cases r3;refine p7 ?_;cases k with
 | false=>
  obtain⟨k',e',q'⟩:=q3;cases e';exact ite_ff ⟨H3,I3,q'⟩
 | true=>
  refine ite_tt (test_last (thn (hc pins s3 σ H3 _ I3 q3) fun w' s4 ⟨z',H4,I4,r4,q4⟩=>thn (ho' pins s4 σ H4 y z' u w' _ I4 r2 r4 q4) fun d' s5 ⟨z2,H5,I5,r5,k2,e2,q5⟩=>?_));subst e2;cases r5;exact p7 ⟨H5,I5,q5⟩
def qdt(K:PySem.W.Frag)(x:V)(H:Hp)(k:Bool): Prop:=
 match x with
 | .non=>k=false
 | .bl b=>k=b
 | .int i=>k=(i != 0)
 | .str y=>y.length<=sizeLine/\k=((y.length:Int) != 0)
 | .byt y=>y.size<=sizeLine/\k=((y.size:Int) != 0)
 | .ref p=>(∃xs,SqL K H p xs/\k = !xs.isEmpty)\/(∃xs,SqT K H p xs/\k = !xs.isEmpty)\/∃kvs,H p=some (.dK kvs)/\k = !kvs.isEmpty
 | _=>False
theorem qal{κ : Type}{kvs:List (κ × V)}{vs:List (κ × Value)}(r:KV kvs vs): (!vs.isEmpty) = !kvs.isEmpty:=by
 cases r <;> rfl
theorem q48{xs:List V}{its:List Value}(r:Vals xs its): (!its.toArray.isEmpty) = !xs.isEmpty:=by
 cases r <;> simp
theorem q23:(sizeLine:Nat)<2 ^ 63:=by rw [nv];decide
theorem qi2:qkv X (fun x H Q=>∃k,qdt X.K x H k/\Q k H):=by
 intro pins s σ H x v Q I rx h;obtain⟨k,e,q⟩:=h;have hl:=q23;have hs:sizeLine=16777216:=nv;cases x with
 | non=>
  cases rx;have e':k=false:=e;subst e';exact truthy_none ⟨H,I,q⟩
 | bl b=>
  cases rx;have e':k=b:=e;subst e';exact p7 ⟨H,I,q⟩
 | int i=>
  obtain⟨t,rfl⟩:=rx;have e':k=(i != 0):=e;subst e';exact PySem.P.truthy_int ⟨H,I,q⟩
 | str y=>
  obtain⟨t,rfl⟩:=rx;obtain⟨hy,e'⟩:y.length<=sizeLine/\k=((y.length:Int) != 0):=e;subst e';exact PySem.P.truthy_str (by omega) ⟨H,I.tok _,q⟩
 | byt y=>
  obtain⟨t,rfl⟩:=rx;obtain⟨hy,e'⟩:y.size<=sizeLine/\k=((y.size:Int) != 0):=e;subst e';exact PySem.W.truthy_bytes (by omega) ⟨H,I.tok _,q⟩
 | ref p=>
  cases rx;have e':(∃xs,SqL X.K H p xs/\k = !xs.isEmpty)\/(∃xs,SqT X.K H p xs/\k = !xs.isEmpty)\/∃kvs,H p=some (.dK kvs)/\k = !kvs.isEmpty:=e;rcases e' with⟨xs,hx,e'⟩|⟨xs,hx,e'⟩|⟨kvs,hx,e'⟩
  ·subst e'
   obtain⟨its,r,pl,hz⟩:=I.list hx;have hlen:=r.length;exact wpAny_truthy_list pl.isList (by simp only [gc];omega) ⟨H,I.tok _,by rw [q48 r];exact q⟩
  ·subst e'
   obtain⟨its,r,pl,hz⟩:=I.tuple hx;have hlen:=r.length;exact truthy_tuple pl (by simp only [gc];omega) ⟨H,I.tok _,by rw [q48 r];exact q⟩
  ·subst e'
   obtain⟨hz,hS,vs,r,m⟩:kvs.length<=sizeLine/\(p==sysModules)=false/\∃vs,KV kvs vs/\s.heap.DictOf (mixKind X.prog X.w) p vs:=I.hok p _ hx;have hlen:kvs.length=vs.length:=Paired.length r;exact wpAny_truthy_dict hS m (by omega) ⟨H,I.tok _,by rw [qal r];exact q⟩
 | _=>exact(show False from e).elim
theorem qdu(ha:PE X a ta)(he:∀whole,isTrue a X.env whole=(do let v <- whole;standAt a.pos;holding [v] (truthy v))):
  PT X a (fun σ H Q=>ta σ H fun x H'=>∃k,qdt X.K x H' k/\Q k H'):=by
 intro pins s σ H Q I h;exact isTrue_plain (thn (ha pins s σ H _ I h) fun v s1 ⟨x,H1,I1,r1,q1⟩=>qi2 pins s1 σ H1 x v Q I1 r1 q1) (he _)
theorem qam:OpR X (binaryOp .Add) (fun x y H Q=>∃i j,x=.str i/\y=.str j/\i.length+j.length<=sizeLine/\Q (.str (i++j)) H):=by
 intro pins s σ H x y v u Q I rx ry h;obtain⟨i,j,rfl,rfl,hz,q⟩:=h;obtain⟨t,rfl⟩:=rx;obtain⟨t',rfl⟩:=ry;exact add_str (fun t' tk=>⟨.str (i++j),H,I.tok _,⟨_,rfl⟩,q⟩) hz
theorem vals1{x:V}{us:List Value}(r:Vals [x] us): ∃u,us=[u]/\RelV x u:=by
 cases r with
 | cons r1 r2=>cases r2;exact⟨_,rfl,r1⟩
theorem vals2{x y:V}{us:List Value}(r:Vals [x,y] us): ∃u w',us=[u,w']/\RelV x u/\RelV y w':=by
 cases r with
 | cons r1 r2=>
  cases r2 with
  | cons r3 r4=>cases r4;exact⟨_,_,rfl,r1,r3⟩
theorem qc0(hc:X.calm=true): zm X (.builtin "max") (fun xs H Q=>∃i j,xs=[.int i,.int j]/\Q (.int (if j>i then j else i)) H):=by
 intro pins s σ H xs us Q I r h;obtain⟨i,j,rfl,q⟩:=h;obtain⟨u,w',rfl,⟨t,rfl⟩,⟨t',rfl⟩⟩:=vals2 r;refine max_two_ints (I.ok.hd hc) fun h' tk k=>⟨_,H,I.kept k,?_,q⟩
 by_cases hj:j>i
 ·rw [gu hj,gu hj];exact⟨_,rfl⟩
 ·rw [mf hj,mf hj];exact⟨_,rfl⟩
theorem qc1(hc:X.calm=true): zm X (.builtin "min") (fun xs H Q=>∃i j,xs=[.int i,.int j]/\Q (.int (if j<i then j else i)) H):=by
 intro pins s σ H xs us Q I r h;obtain⟨i,j,rfl,q⟩:=h;obtain⟨u,w',rfl,⟨t,rfl⟩,⟨t',rfl⟩⟩:=vals2 r;refine min_two_ints (I.ok.hd hc) fun h' tk k=>⟨_,H,I.kept k,?_,q⟩
 by_cases hj:j<i
 ·rw [gu hj,gu hj];exact⟨_,rfl⟩
 ·rw [mf hj,mf hj];exact⟨_,rfl⟩
theorem q7a:zm X (.type "str") (fun xs H Q=>∃i,xs=[.int i]/\i.natAbs.log2<1920/\Q (.str (toString i)) H):=by
 intro pins s σ H xs us Q I r h;obtain⟨i,rfl,hz,q⟩:=h;obtain⟨u,rfl,t,rfl⟩:=vals1 r;exact PySem.P.str_of_int hz ⟨.str _,H,I.tok _,⟨_,rfl⟩,q⟩
def qky(K:PySem.W.Frag)(x:V)(H:Hp)(n:Nat): Prop:=
 match x with
 | .str y=>y.length<=sizeLine/\n=y.length
 | .byt y=>y.size<=sizeLine/\n=y.size
 | .ref p=>(∃xs,SqL K H p xs/\n=xs.length)\/∃xs,SqT K H p xs/\n=xs.length
 | _=>False
theorem call_len:zm X (.builtin "len") (fun xs H Q=>∃x n,xs=[x]/\qky X.K x H n/\Q (.int n) H):=by
 intro pins s σ H xs us Q I r h;obtain⟨x,n,rfl,e,q⟩:=h;obtain⟨u,rfl,rx⟩:=vals1 r;have hl:=q23;have hs:sizeLine=16777216:=nv;cases x with
 | str y=>
  obtain⟨t,rfl⟩:=rx;obtain⟨hy,e'⟩:y.length<=sizeLine/\n=y.length:=e;subst e';exact len_str (by omega) ⟨.int _,H,I.tok _,⟨_,rfl⟩,q⟩
 | byt y=>
  obtain⟨t,rfl⟩:=rx;obtain⟨hy,e'⟩:y.size<=sizeLine/\n=y.size:=e;subst e';exact PySem.W.len_bytes (by omega) ⟨.int _,H,I.tok _,⟨_,rfl⟩,q⟩
 | ref p=>
  cases rx;have e':(∃xs,SqL X.K H p xs/\n=xs.length)\/∃xs,SqT X.K H p xs/\n=xs.length:=e;rcases e' with⟨xs,hx,e'⟩|⟨xs,hx,e'⟩
  ·subst e'
   obtain⟨its,r',pl,hz⟩:=I.list hx;have hlen:=r'.length;exact Calls.call_len_list pl.isList (by simp only [gc];omega) ⟨.int xs.length,H,I.tok _,⟨_,by simp only [gc];rw [hlen]⟩,q⟩
  ·subst e'
   obtain⟨its,r',pl,hz⟩:=I.tuple hx;have hlen:=r'.length;exact len_tuple pl (by simp only [gc];omega) ⟨.int xs.length,H,I.tok _,⟨_,by simp only [gc];rw [hlen]⟩,q⟩
 | _=>exact(show False from e).elim
end
structure ObjM(h:Heap)(x dx C:Addr)(mA:Str->Option Value): Prop where
 obj:h.get? x=some (PySem.W.instObj C dx)
 ns:h.Ns1 dx mA
 ne:dx≠x
theorem qc2{h:Heap}{dx:Addr}{mA:Str->Option Value}(n:h.Ns1 dx mA): ∃od,h.get? dx=some od/\∀name,PySem.W.lookIn name od=some (mA name):=by
 obtain⟨o,es,ep,ho,hd,hk,_,hm⟩:=n;refine⟨o,ho,fun name=>?_⟩;have e:=hm name;unfold nsFind findBy at e;rw [<- Array.find?_toList] at e;unfold PySem.W.lookIn;rw [hd];dsimp only
 split
 ·rename_i y q
  rw [q] at e;exact n3 some e
 ·rename_i q
  rw [q] at e;have a:es.toList.any (·.refKey)=false:=by
   rw [List.any_eq_false];intro y hy;obtain⟨z,t,hkey⟩:=hk y (Array.mem_toList_iff.mp hy);simp [DictEntry.refKey,hkey]
  have a':¬es.toList.any (·.refKey)=true:=by rw [a];exact gx
  rw [mf a'];exact n3 some e
theorem ObjM.look{h:Heap}{x dx C:Addr}{mA:Str->Option Value}(I:ObjM h x dx C mA): ∃od,PySem.W.InstAt h x (PySem.W.instObj C dx) C (some od)/\∀name,PySem.W.lookIn name od=some (mA name):=
 let⟨od,ho,hl⟩:=qc2 I.ns
 ⟨od,⟨I.obj,rfl,rfl,ho⟩,hl⟩
section
variable{prog:Program}{w:World}{A:Around}{E:Value->Shared->Prop}{s:Shared}{K:PySem.W.Frag}{x dx C f:Addr}{mA:Str->Option Value}{name:Str}{v:Value}
end
section
variable{P:Program}{w:World}{H H':Hp}{h h':Heap}{a C dx:Addr}{fs fs':List (Str×V)}
theorem qg1(hok:HOk P w H h)(e:H a=some (.ins C dx fs)): ∃mA,ObjM h a dx C mA/\(∀f,qdo (fs.lookup f) (mA f))/\PySem.Within mA (fs.map (·.1))/\fs.length<=1000/\H dx=some (.own a):=by
 obtain⟨d,z,ne,ob,mA,n,r,q⟩:=(show ObjOk P w H h a (.ins C dx fs) from hok a _ e)
 exact⟨mA,⟨ob,n,ne⟩,r,q,z,d⟩
end
structure Cls(K:PySem.W.Frag)(C:Addr): Prop where
 pg:PySem.W.plainGet K C Str.empty=true
 hd:PySem.W.hasDictIn K C=true
 po:PySem.W.plainOver K C=true
 sa:PySem.W.findIn K (.ref C) "__setattr__" = some (some (.builtin "object.__setattr__"))
section
variable{X:Cx}{pins:List (Addr×Obj)}{σ : St}{H:Hp}{s:Shared}{a C dx:Addr}{fs:List (Str×V)}{f:Str}{v:V}{A:Around}{E:Value->Shared->Prop}
end
section
variable{X:Cx}{o e value:Expr}{f:Str}{pos pos' tpos:Pos}{ta tv:TE}
end
section
variable{X:Cx}{pins:List (Addr×Obj)}{σ : St}{H:Hp}{s:Shared}{A:Around}{E:Value->Shared->Prop}{Q:Value->Shared->Prop}{c:Value}{b:Bool}
end
structure Room(k:Nat)(A:Around): Prop where
 hd:A.handled=none
 dp:A.depth+3*k+5<recursionLimit
 un:A.units+16*k+200<cLine
theorem Room.mono{j k:Nat}{A:Around}(r:Room k A)(h:j<=k): Room j A:=⟨r.hd,by have:=r.dp;omega,by have:=r.un;omega⟩
theorem Room.deeper{k:Nat}{A:Around}(r:Room (k+1) A)(env:Env): Room k (A.deeper env):=
 ⟨r.hd,by have:=r.dp;show A.depth+1+3*k+5<_;omega,by have:=r.un;show A.units+3+16*k+200<_;omega⟩
theorem Room.depth{k:Nat}{A:Around}(r:Room k A): A.depth<recursionLimit:=by have:=r.dp;omega
theorem Room.units{k:Nat}{A:Around}(r:Room k A): A.units+64<cLine:=by have:=r.un;omega
def tNil:TA:=fun _ H Q=>Q [] H
def qk4(ta:TE)(tr:TA): TA:=fun σ H Q=>ta σ H fun x H1=>tr σ H1 fun xs H2=>Q (x :: xs) H2
section
variable{X:Cx}{e:Expr}{es:List Expr}{te:TE}{t:TA}{pos:Pos}
theorem vt:PA X [] tNil:=fun _ _ _ _ H Q I h=>Calls.spliced_nil ⟨[],H,I,.nil,h⟩
theorem jt(ha:PE X e te)(hr:PA X es t)(hs:starEach (e :: es) X.env=(false,eval e X.env) :: starEach es X.env:=by rfl): PA X (e :: es) (qk4 te t):=by
 intro pos pins s σ H Q I h;rw [hs];show wpAny _ _ (spliced ((false,eval e X.env) :: backTo pos (starEach es X.env))) _ _ s;refine Calls.spliced_cons (thn (ha pins s σ H _ I h) fun u s1 ⟨x,H1,I1,r1,q1⟩=>?_);exact thn (hr pos pins s1 σ H1 _ I1 q1) fun us s2 ⟨xs,H2,I2,r2,q2⟩=>⟨x :: xs,H2,I2,.cons r1 r2,q2⟩
def qkz(t:TA): TE:=fun σ H Q=>t σ H fun xs H1=>xs.length<=sizeLine/\∀p,H1 p=none->Q (.ref p) (upd H1 p (.tup xs))
def ql0(t:TA): TE:=fun σ H Q=>t σ H fun xs H1=>xs.length<=sizeLine/\∀p,H1 p=none->Q (.ref p) (upd H1 p (.lst xs))
theorem qi3{x1}(h:PA X es t): PE X (.Tuple es x1 pos) (qkz t):=by
 intro pins s σ H Q I hq;refine wpAny_Tuple_spliced (thn (h pos pins s σ H _ I hq) fun us s1 ⟨xs,H1,I1,r,z,q⟩=>⟨by rw [<- r.length];exact z,?_⟩);have hf:H1 s1.heap.objs.size=none:=I1.hok.fresh (gm _);refine⟨.ref s1.heap.objs.size,upd H1 s1.heap.objs.size (.tup xs),I1.laid (t':=s1.toks) (fun b u e=>gb _ e) (gm _) ?_,rfl,q _ hf⟩;exact⟨z,us,r,⟨_,m4 _ rfl,rfl,rfl,_,rfl⟩⟩
theorem qi4(h:PA X es t): PE X (.List es pos) (ql0 t):=by
 intro pins s σ H Q I hq;refine wpAny_List_spliced (thn (h pos pins s σ H _ I hq) fun us s1 ⟨xs,H1,I1,r,z,q⟩=>⟨by rw [<- r.length];exact z,?_⟩);have hf:H1 s1.heap.objs.size=none:=I1.hok.fresh (gm _);refine⟨.ref s1.heap.objs.size,upd H1 s1.heap.objs.size (.lst xs),I1.laid (t':=s1.toks) (fun b u e=>gb _ e) (gm _) ?_,rfl,q _ hf⟩;exact⟨z,us,0,r,m4 _ rfl⟩
end
abbrev Sp:=List V->Hp->VK->XK->Prop
abbrev CXT:=List Env->Hp->Shared->XK->Value->Shared->Prop
structure Env0(P:Program)(w:World)(K:PySem.W.Frag)(mg:Str->Option Value)(base:Heap)(A:Around)(outer:List Env)(s:Shared)(H:Hp): Prop where
 frames:A.frames=some outer
 mod:Mod K mg base
 bs:∀b o,base.get? b=some o->s.heap.get? b=some o/\H b=none
 bsz:base.objs.size<=s.heap.objs.size
 funs:s.heap.FunFrames base outer
 frf:∀b∈frs outer,H b=none
 hok:HOk P w H s.heap
 bare:AllBare s.gens
def CE(outer:List Env)(P:Program)(w:World)(H:Hp)(s:Shared)(Q:VK)(u:Value)(s':Shared): Prop:=
 ∃v H',s'.os=s.os/\AllBare s'.gens/\Un (frs outer) [] H H' s.heap s'.heap/\HOk P w H' s'.heap/\RelV v u/\Q v H'
def CR(CX:CXT)(outer:List Env)(P:Program)(w:World)(H:Hp)(s:Shared)(Q:VK)(E:XK)(r:Result)(s':Shared): Prop:=
 match r with
 | .ok (.ret u)=>CE outer P w H s Q u s'
 | .ok _=>False
 | .error e=>CX outer H s E e s'
structure FnOk(P:Program)(w:World)(K:PySem.W.Frag)(mg:Str->Option Value)(base:Heap)(CX:CXT)(k:Nat)(f:Addr)(fd:FuncData)(ps:List Str)(sp:Sp): Prop where
 len:∀vs H Q E,sp vs H Q E->vs.length=ps.length
 run:∀(A:Around) (outer:List Env) (s:Shared) (H:Hp) (args:Args) (us:List Value) (vs:List V) (Q:VK) (E:XK),Room k A->Env0 P w K mg base A outer s H->BindsTo s fd args (ps.zip us)->Vals vs us->sp vs H Q E ->
  codeAny (model P w) A (.call (.ref f) args) (CR CX outer P w H s Q E) s
theorem FnOk.imp{P:Program}{w:World}{K:PySem.W.Frag}{mg:Str->Option Value}{base:Heap}{CX:CXT}{k:Nat}{f:Addr}{fd:FuncData}{ps:List Str}{sp sp':Sp}(F:FnOk P w K mg base CX k f fd ps sp)
  (h:∀vs H Q E,sp' vs H Q E->sp vs H Q E):FnOk P w K mg base CX k f fd ps sp':=
 ⟨fun vs H Q E q=>F.len vs H Q E (h _ _ _ _ q),fun A outer s H args us vs Q E hr he hb hv hs=>F.run A outer s H args us vs Q E hr he hb hv (h _ _ _ _ hs)⟩
section
variable{X:Cx}{pins:List (Addr×Obj)}{σ : St}{H:Hp}{s s':Shared}
theorem Inv.env0(I:Inv X pins σ H s): Env0 X.prog X.w X.K X.mg X.base X.A X.stack s H:=
 ⟨I.ok.frames,I.ok.mod,I.bs,ma I.ok.bsz I.sz,I.stack,I.stkFree,I.hok,I.bare⟩
theorem Inv.after{Q:VK}{u:Value}(I:Inv X pins σ H s)(h:CE X.stack X.prog X.w H s Q u s'): EP X pins σ Q u s':=by
 obtain⟨v,H',os,bare,un,hok,r,q⟩:=h;obtain⟨hh,g,d,t,os'⟩:=s';obtain rfl:os'=s.os:=os;exact⟨v,H',I.call (h':=hh) (g':=g) (d':=d) (t':=t) (ch:=[]) un hok bare (fun b z=>absurd z (by simp)),r,q⟩
end
def qk5(sp:Sp)(dvs:List V)(E:XK)(t:TA): TE:=fun σ H Q=>t σ H fun vs H1=>sp (vs++dvs) H1 Q E
def Binds(K:PySem.W.Frag)(fd:FuncData)(ps:List Str)(ds:List Value): Prop:=
 ∀(s:Shared) (us:List Value),K.In s.heap->(us++ds).length=ps.length->BindsTo s fd ⟨us,[]⟩ (ps.zip (us++ds))
def q7b(CX:CXT)(X:Cx)(E:XK): Prop:=∀(pins:List (Addr×Obj)) (σ : St) (H:Hp) (s:Shared) (e:Value) (s':Shared),Inv X pins σ H s->CX X.stack H s E e s'->X.xe e s'
section
variable{X:Cx}{CX:CXT}{k:Nat}{f C:Addr}{fd:FuncData}{ps:List Str}{sp:Sp}{dvs:List V}{ds:List Value}{E:XK}{x m:Str}{p pos apos:Pos}{e o:Expr}{es:List Expr}{ta:TE}{t:TA}
theorem qi5{pins:List (Addr×Obj)}{σ : St}{H:Hp}{s:Shared}{Q:VK}{us:List Value}{vs:List V}(F:FnOk X.prog X.w X.K X.mg X.base CX k f fd ps sp)(hr:Room k X.A)(hb:Binds X.K fd ps ds)(hd:Vals dvs ds)(hx:q7b CX X E)
  (I:Inv X pins σ H s) (r:Vals vs us) (h:sp (vs++dvs) H Q E):wpAny (model X.prog X.w) X.A (call (.ref f) us) (EP X pins σ Q) X.xe s:=by
 have r2:Vals (vs++dvs) (us++ds):=r.append hd;have hl:(us++ds).length=ps.length:=by rw [<- r2.length];exact F.len _ _ _ _ h
 refine wpAny_call (u7 (F.run X.A X.stack s H ⟨us,[]⟩ (us++ds) (vs++dvs) Q E hr I.env0 (hb s us I.kIn hl) r2 h) fun r s' hq=>?_);cases r with
 | error e=>exact hx pins σ H s e s' I hq
 | ok fl=>
  cases fl with
  | ret u=>exact I.after hq
  | next=>exact False.elim hq
  | brk=>exact False.elim hq
  | cont=>exact False.elim hq
theorem qg2(F:FnOk X.prog X.w X.K X.mg X.base CX k f fd ps sp)(hr:Room k X.A)(hg:Gl X x)(hm:X.mg x=some (.ref f))(hk:PySem.W.keepIn X.K (.ref f)=true)(hb:Binds X.K fd ps ds)(hd:Vals dvs ds)(hx:q7b CX X E)
  (ha:PA X (e :: es) t) (hdb:(x==("__debug__" : Str))=false:=by decide) (he:starEach (e :: es) X.env=(false,eval e X.env) :: starEach es X.env:=by rfl) (hpl:(backTo pos (starEach es X.env)).any (·.1)=false:=by rfl) :
  PE X (.Call (.Name x p) (e :: es) [] pos) (qk5 sp dvs E t):=by
 intro pins s σ H Q I h;refine g0k (q9h I hg hm ?_ hdb);refine PySem.W.callWith_K (h₀:=X.base) I.ok.mod.kin hk (thn (ha pos pins s σ H _ I h) fun us s1 ⟨vs,H1,I1,r,q⟩=>⟨I1.kIn,?_⟩) he hpl;exact qi5 F hr hb hd hx I1 r q
end
section
variable{X:Cx}{CX:CXT}{k:Nat}{f C:Addr}{fd:FuncData}{ps ks:List Str}{sp:Sp}{E:XK}{x m:Str}{p pos apos kpos:Pos}{e o:Expr}{es:List Expr}{kws:List Keyword}{te ta:TE}{t tk:TA}{nm:Option Str}
variable{g:List Value->List Value->List Value}{gV:List V->List V->List V}
end
structure FnScope(N P:List Str)(sc:Scope): Prop where
 kind:sc.kind=.function
 co:sc.isCoroutine=false
 gen:sc.isGenerator=false
 nd:N.Nodup
 pre:N.take P.length=P
 par:∀x∈P,sc.names.lookup x=some .local\/sc.names.lookup x=some .cell
 nofree:∀y∈sc.names,y.2 ≠ .free
theorem q5z{kindOf:Str->Option NameKind}{x:Str}: ∀ {binds:List (Str×Value)} {m:Str->Option Value},(∀v,(x,v)∉binds)->bindL kindOf binds m x=m x
 | [],_,_=>rfl
 | (n,v) :: r,m,h=>by
  unfold bindL;rw [q5z fun w hw=>h w (gr _ hw)]
  split
  ·have:x≠n:=by rintro rfl;exact h v gi
   simp [this]
  ·rfl
theorem q60{kindOf:Str->Option NameKind}{x:Str}: ∀ {binds:List (Str×Value)} {m:Str->Option Value},(∀v,(x,v)∉binds)->bindC kindOf binds m x=m x
 | [],_,_=>rfl
 | (n,v) :: r,m,h=>by
  unfold bindC;rw [q60 fun w hw=>h w (gr _ hw)]
  split
  ·rfl
  ·have:x≠n:=by rintro rfl;exact h v gi
   simp [this]
theorem q61{kindOf:Str->Option NameKind}{x:Str}{v:Value}: ∀ {P:List Str} {vs:List Value} {i:Nat} {m:Str->Option Value},P.Nodup->P[i]? = some x->vs[i]? = some v->kindOf x=some .local ->
  bindL kindOf (P.zip vs) m x=some v
 | [],_,_,_,_,h,_,_=>by simp at h
 | _ :: _,[],_,_,_,_,h,_=>by simp at h
 | p :: P,w :: vs,0,m,nd,h1,h2,hk=>by
  simp at h1 h2;subst h1;subst h2;show bindL kindOf ((p,w) :: P.zip vs) m p=_;unfold bindL;rw [q5z fun v hv=>(g00.mp nd).1 (g01 hv).1,gu hk];simp
 | p :: P,w :: vs,i+1,m,nd,h1,h2,hk=>by
  show bindL kindOf ((p,w) :: P.zip vs) m x=_;unfold bindL;exact q61 (i:=i) (g00.mp nd).2 (by simpa using h1) (by simpa using h2) hk
theorem q62{kindOf:Str->Option NameKind}{x:Str}{v:Value}: ∀ {P:List Str} {vs:List Value} {i:Nat} {m:Str->Option Value},P.Nodup->P[i]? = some x->vs[i]? = some v->kindOf x≠some .local ->
  bindC kindOf (P.zip vs) m x=some v
 | [],_,_,_,_,h,_,_=>by simp at h
 | _ :: _,[],_,_,_,_,h,_=>by simp at h
 | p :: P,w :: vs,0,m,nd,h1,h2,hk=>by
  simp at h1 h2;subst h1;subst h2;show bindC kindOf ((p,w) :: P.zip vs) m p=_;unfold bindC;rw [q60 fun v hv=>(g00.mp nd).1 (g01 hv).1,mf hk];simp
 | p :: P,w :: vs,i+1,m,nd,h1,h2,hk=>by
  show bindC kindOf ((p,w) :: P.zip vs) m x=_;unfold bindC;exact q62 (i:=i) (g00.mp nd).2 (by simpa using h1) (by simpa using h2) hk
def start(N:List Str)(vs:List V): St:=vs.map some++List.replicate (N.length-vs.length) none
def j3(CX:CXT)(P:Program)(w:World)(K:PySem.W.Frag)(mg:Str->Option Value)(base:Heap)(N:List Str)(qual:Str)(scope:Scope)(f:Addr)(cd:Value)(A:Around)(outer:List Env)(s:Shared)(H:Hp)(E:XK): Cx where
 prog:=P
 w:=w
 K:=K
 mg:=mg
 base:=base
 A:=A.deeper (envOfC qual scope s.heap.objs.size f cd)
 N:=N
 s₀:=s
 H₀:=H
 env:=envOfC qual scope s.heap.objs.size f cd
 outer:=outer
 stack:=envOfC qual scope s.heap.objs.size f cd :: outer
 ex:=[]
 calm:=true
 fn:=fun _=>true
 pn:=[]
 xe:=fun e s'=>wpAny (model P w) (A.deeper (envOfC qual scope s.heap.objs.size f cd)) (leaving (envOfC qual scope s.heap.objs.size f cd) e) (fun _ s''=>CX outer H s E e s'') (fun e' s''=>CX outer H s E e' s'') s'
theorem q7c{sc:Scope}{n:Nat}{x:Str}(h:sc.names.lookup x=some .cell): ∃c,(cellsFrom n sc.names []).lookup x=some c:=by
 have q:=g1g sc.names n [] (.inl h);exact u9.mp q
theorem qc3{CX:CXT}{P:Program}{w:World}{K:PySem.W.Frag}{mg:Str->Option Value}{base:Heap}{N ps:List Str}{qual:Str}{scope:Scope}{f:Addr}{cd:Value}{A:Around}{outer:List Env}{s s1:Shared}{H:Hp}{E:XK}{us:List Value}{vs:List V}
  (S:FnScope N ps scope) (hd:A.handled=none) (e0:Env0 P w K mg base A outer s H) (hl:vs.length=ps.length) (r:Vals vs us)
  (x:InCallC s s.heap.objs.size (bindL (envOfC qual scope s.heap.objs.size f cd).kindOf (ps.zip us) fun _=>none) (cellsFrom (s.heap.objs.size+1) scope.names []) (bindC (envOfC qual scope s.heap.objs.size f cd).kindOf (ps.zip us) fun _=>none) s1) :
  Inv (j3 CX P w K mg base N qual scope f cd A outer s H E) [] (start N vs) H s1:=by
 have hpl:ps.length<=N.length:=by have:=n3 List.length S.pre;rw [mn] at this;omega
 obtain⟨h1,tk,rfl,hk⟩:=x.done;have noA:∀b:Addr,b∉(j3 CX P w K mg base N qual scope f cd A outer s H E).ex:=fun b z=>absurd (show b∈([]:List Addr) from z) (by simp);refine⟨⟨e0.mod,S.kind,rfl,rfl,gm _,fun y z c h1 h2=>?_,fun y hy=>?_,fun y c _ h=>?_,fun _=>hd,Around.frames_deeper e0.frames,.inr ⟨rfl,rfl⟩,fun b z=>absurd z (noA b),e0.bs,e0.bsz,fun b _ _=>noA b,fun b z=>absurd z (noA b),e0.funs,e0.frf⟩,
  rfl,e0.bare,Un.kept hk,⟨_,x.toInCall.ns,fun i y v h1 h2 h3=>?_⟩,fun y c h=>⟨_,x.cell y c h⟩,e0.hok.fresh (gm _),fun y c h=>?_,fun p hp=>absurd (show p∈([]:List (Addr×Obj)) from hp) (by simp),e0.hok.kept hk,?_⟩
 ·exact name_of_addr x.apart (pq h1) (pq h2)
 ·have hy:scope.names.lookup y=some .cell\/scope.names.lookup y=some .free:=hy
  rcases hy with hy|hy
  ·exact q7c hy
  ·exact absurd rfl (S.nofree _ (pq hy))
 ·exact u6 (x.above y c (pq h))
 ·have hi:i<vs.length:=by
   unfold start at h2
   by_cases hi:i<vs.length
   ·exact hi
   ·rw [n6 (by simpa using hi)] at h2
    rw [nq] at h2
    split at h2 <;> cases h2
  have ha:vs[i]? = some v:=by
   unfold start at h2;rw [my (by simpa using hi),gv] at h2;cases e:vs[i]? with
   | none=>rw [e] at h2;cases h2
   | some a=>rw [e] at h2;cases h2;rfl
  obtain⟨u,hu,rv⟩:=r.get ha;have hp:ps[i]? = some y:=by
   rw [<- S.pre,g0y (by omega)];exact h1
  have ndP:ps.Nodup:=by rw [<- S.pre];exact S.nd.sublist (List.take_sublist _ _)
  refine⟨u,rv,?_⟩;rcases S.par y (List.mem_of_getElem? hp) with k|k
  ·exact .inl ⟨k,q61 ndP hp hu k⟩
  ·obtain⟨c,e⟩:=q7c (n:=s.heap.objs.size+1) k
   refine .inr ⟨.inl k,c,e,?_⟩;have q:=x.cell y c e;rw [q62 ndP hp hu (by show scope.names.lookup y≠_;rw [k];decide)] at q;exact q
 ·exact e0.hok.fresh (u6 (x.above y c (pq h)))
 ·unfold start
  show _=N.length;rw [gh,g7,g1k];omega
theorem qk6{CX:CXT}{P:Program}{w:World}{K:PySem.W.Frag}{mg:Str->Option Value}{base:Heap}{k:Nat}{f:Addr}{name qual:Str}{params:Arguments}{body:List Stmt}{scope:Scope}{dV kV doc pm cdv ct oc:Value}{an od:Option Addr}
  {osl:Array (Option Value)} {N ps:List Str} {sp:Sp} (lk:K.lookup f=some ⟨oc,od,.func (PySem.W.fnOf name qual params body scope dV kV doc pm an cdv ct),osl⟩) (hcd:PySem.W.codeIn K cdv qual=true) (S:FnScope N ps scope)
  (len:∀vs H Q E,sp vs H Q E->vs.length=ps.length)
  (hbody:∀(A:Around) (outer:List Env) (s:Shared) (H:Hp) (vs:List V) (Q:VK) (E:XK),Room k (A.deeper (envOfC qual scope s.heap.objs.size f cdv))->sp vs H Q E ->
   ∃t,PSs (j3 CX P w K mg base N qual scope f cdv A outer s H E) body t/\t {nx:=fun _ H'=>Q .non H',rt:=Q} (start N vs) H) :
  FnOk P w K mg base CX (k+1) f (PySem.W.fnOf name qual params body scope dV kV doc pm an cdv ct) ps sp:=by
 refine⟨len,fun A outer s H args us vs Q E hr e0 hb r hsp=>?_⟩;have hl:=len _ _ _ _ hsp;have KX:K.In s.heap:=e0.mod.kin.keeps fun b o e=>(e0.bs b o e).1;have lim:s.heap.NoLimit:=e0.mod.nolimit.keeps fun b o e=>(e0.bs b o e).1;have hkind:∀y∈ps.zip us,scope.names.lookup y.1=some .local\/(scope.names.lookup y.1=some .cell/\((cellsFrom (s.heap.objs.size+1) scope.names []).lookup y.1).isSome=true):=fun⟨n,v⟩ hy=>by
  rcases S.par n (g01 hy).1 with q|q
  ·exact .inl q
  ·exact .inr ⟨q,g1g _ _ _ (.inl q)⟩
 refine codeAny_call_function hr.depth (KX _ _ lk) rfl S.co S.gen rfl (PySem.W.codeRec_of KX hcd) (hb _ _ _ _ ?_);refine wpAny_newFunctionEnv_cells S.kind hkind fun env he s1 x=>?_;subst he;refine⟨lim.keeps x.toInCall.keep,codeAny_func ?_⟩;obtain⟨t,ht,hq⟩:=hbody A outer s H vs Q E (hr.deeper _) hsp;have I:Inv (j3 CX P w K mg base N qual scope f cdv A outer s H E) [] (start N vs) H s1:=qc3 S hr.hd e0 hl r x;refine nk (ht [] s1 (start N vs) H _ I hq) (fun fl s' hs=>?_) fun e s' hs=>hs;have fin:∀ {σ':St} {H':Hp} {v:V} {u:Value},Inv (j3 CX P w K mg base N qual scope f cdv A outer s H E) [] σ' H' s'->RelV v u->Q v H'->CE outer P w H s Q u s':=
  fun {σ' H' v u} J rv q=>⟨v,H',J.os,J.bare,J.base,J.hok,rv,q⟩
 cases fl with
 | ret u=>
  obtain⟨v, σ',H',J,rv,q⟩:=hs;exact fin J rv q
 | next=>
  obtain⟨σ',H',J,q⟩:=hs;exact fin (v:=V.non) (u:=Value.none) J rfl q
 | brk=>
  obtain⟨_,_,_,q⟩:=hs;exact False.elim q
 | cont=>
  obtain⟨_,_,_,q⟩:=hs;exact False.elim q
section
variable{X:Cx}{x:Str}{p pos:Pos}{e:Expr}{es:List Expr}{t:TA}{id T:String}{r:List V->Hp->VK->Prop}
def tCB(r:List V->Hp->VK->Prop)(t:TA): TE:=fun σ H Q=>t σ H fun vs H1=>r vs H1 Q
theorem q04(hc:zm X (.builtin id) r)(hg:Gl X x)(hm:X.mg x=none)(hv:bootBuiltins x=some (.builtin id))(ha:PA X (e :: es) t)(hn:x≠"__name__" :=by decide)(hdb:(x==("__debug__" : Str))=false:=by decide)
  (he:starEach (e :: es) X.env=(false,eval e X.env) :: starEach es X.env:=by rfl) (hpl:(backTo pos (starEach es X.env)).any (·.1)=false:=by rfl):PE X (.Call (.Name x p) (e :: es) [] pos) (tCB r t):=by
 intro pins s σ H Q I h;refine g0k (q02 I hg hm hv ?_ hn hdb);exact PyProof.Rows.callWith_builtin1 (thn (ha pos pins s σ H _ I h) fun us s1 ⟨vs,H1,I1,r1,q1⟩=>hc pins s1 σ H1 vs us Q I1 r1 q1) he hpl
theorem q63(hc:zm X (.type T) r)(hg:Gl X x)(hm:X.mg x=none)(hv:bootBuiltins x=some (.type T))(ha:PA X (e :: es) t)(hn:x≠"__name__" :=by decide)(hdb:(x==("__debug__" : Str))=false:=by decide)
  (he:starEach (e :: es) X.env=(false,eval e X.env) :: starEach es X.env:=by rfl) (hpl:(backTo pos (starEach es X.env)).any (·.1)=false:=by rfl):PE X (.Call (.Name x p) (e :: es) [] pos) (tCB r t):=by
 intro pins s σ H Q I h;refine g0k (q02 I hg hm hv ?_ hn hdb);exact nt (thn (ha pos pins s σ H _ I h) fun us s1 ⟨vs,H1,I1,r1,q1⟩=>hc pins s1 σ H1 vs us Q I1 r1 q1) he hpl
end
end L2
namespace HT
open PySem PyProof.Rows
section
open PySem.SeqAt
open PySem.AutoSeq1 (wpAny_loadPart')
open PySem.MeetsSeq PySem.MeetsSeq2 PySem.MeetsSeq3
end
section
variable{prog:Program}{w:World}{A:Around}{E:Value->Shared->Prop}{s:Shared}
theorem cat_tup{t b:Addr}{vs ws:List Value}{Q:Value->Shared->Prop}(ht:IsTup s.heap t vs.toArray)(hb:IsTup s.heap b ws.toArray)(hv:vs≠[])
  (h1:ws=[]->Q (.ref t) s) (h2:ws≠[]->Q (.ref s.heap.objs.size) {s with heap:=s.heap.push {cls:=.type "tuple",data:=.seq (vs++ws).toArray} })
  (hsz:vs.length+ws.length<=sizeLine):wpAny (model prog w) A (binaryOp .Add (.ref t) (.ref b)) Q E s:=by
 obtain⟨⟨cls,dd,data,sl⟩,ho,hc,n,hd⟩:=id ht;obtain⟨⟨cls2,dd2,data2,sl2⟩,ho2,hc2,n2,hd2⟩:=id hb;simp only at hc hd hc2 hd2;subst hc hd hc2 hd2;have e:vs.toArray++ws.toArray=(vs++ws).toArray:=by simp
 by_cases hw:ws=[]
 ·exact g0z ⟨_,ho,rfl⟩ ⟨_,ho2,rfl⟩ g10 seq_tuple_add uo ud (ua _ _)
   (tuple_addW1 t b vs.toArray ws.toArray n n2 dd dd2 sl sl2 (by simpa using hv) (by simp [hw])) ⟨ho,ho2,h1 hw⟩
 ·refine g0z ⟨_,ho,rfl⟩ ⟨_,ho2,rfl⟩ g10 seq_tuple_add uo ud (ua _ _)
   (tuple_addW2 t b vs.toArray ws.toArray n n2 dd dd2 sl sl2 (by simpa using hv) (by simpa using hw) (by rw [gc,gc];exact hsz)) ⟨ho,ho2,?_⟩
  rw [e];exact h2 hw
def sIx(n d:Nat): Option Int->Nat
 | none=>d
 | some v=>if v<0 then(v+(n:Int)).toNat else min v.toNat n
theorem sIx_none(n d:Nat): sIx n d none=d:=rfl
theorem sIx_nat(n d k:Nat): sIx n d (some (k:Int))=min k n:=by
 show(if(k:Int)<0 then((k:Int)+(n:Int)).toNat else min (k:Int).toNat n)=min k n;rw [mf (by omega),Int.toNat_natCast]
theorem qi6(n d:Nat)(hd:d<=n)(o:Option Int): sIx n d o<=n:=by
 cases o with
 | none=>exact hd
 | some v=>
  show(if v<0 then(v+(n:Int)).toNat else min v.toNat n)<=n
  by_cases hv:v<0
  ·rw [gu hv];omega
  ·rw [mf hv];exact Nat.min_le_right _ _
theorem q9l(v:Int)(n d:Nat): (if v<0 then max (v+(n:Int)) 0 else min v (n:Int))=((sIx n d (some v):Nat):Int):=by
 show(if v<0 then max (v+(n:Int)) 0 else min v (n:Int))=(((if v<0 then(v+(n:Int)).toNat else min v.toNat n):Nat):Int)
 by_cases hv:v<0
 ·simp only [gu hv];omega
 ·simp only [mf hv];omega
theorem qan(lo hi:Option Int)(n:Nat): Builtin.Slice.sliceAdjust lo hi 1 (n:Int)=(((sIx n 0 lo:Nat):Int),((sIx n n hi:Nat):Int)):=by
 have h1:¬((1:Int)<0):=by omega
 unfold Builtin.Slice.sliceAdjust;simp only [h1,g0g];refine Prod.ext ?_ ?_
 ·cases lo with
  | none=>rfl
  | some v=>exact q9l v n 0
 ·cases hi with
  | none=>rfl
  | some v=>exact q9l v n n
theorem qao(i j:Nat): Builtin.Slice.slicePlaces (i:Int) (j:Int) 1=j-i:=by
 unfold Builtin.Slice.slicePlaces;have h1:(1:Int)>0:=by omega
 simp only [h1,pd,Int.ediv_one]
 split <;> omega
theorem q49{v:Value}{o:Option Int}{Q:Option Int->Shared->Prop}(p:IsPart v o)(h:Q o s): wpAny (model prog w) A (Builtin.Slice.slicePartIndex v) Q E s:=by
 cases p with
 | none=>exact slicePart_none h
 | int i t=>exact slicePart_int h
theorem sliceApplied_gen{sl:Addr}{vl vu:Value}{lo hi:Option Int}{n:Nat}{Q:Int×Int×Nat->Shared->Prop}(hs:s.heap.IsSliceOf sl vl vu .none)(pl:IsPart vl lo)(pu:IsPart vu hi)
  (h:Q (((sIx n 0 lo:Nat):Int),1,sIx n n hi-sIx n 0 lo) s):wpAny (model prog w) A (Builtin.Slice.sliceApplied (.ref sl) (pure (n:Int))) Q E s:=by
 obtain⟨os,hos,hcs,hds⟩:=id hs;unfold Builtin.Slice.sliceApplied Builtin.Slice.sliceFields;refine g9 (g9 (wpAny_field hos hds (x:=vl) rfl (g9 (wpAny_field hos hds (x:=vu) rfl (g9 (wpAny_field hos hds (x:=.none) rfl (gd ?_)))))));refine g9 (slicePart_none ?_);show wpAny _ _ (if((1:Int)==0)=true then _ else _) _ _ s;rw [mf (by decide)];refine g9 (q49 pl (g9 (q49 pu (g9 (gd ?_)))));show wpAny _ _ (match Builtin.Slice.sliceAdjust lo hi 1 (n:Int) with|(lo,hi)=>pure (lo,(1:Int),Builtin.Slice.slicePlaces lo hi 1)) _ _ s;rw [qan lo hi n];show wpAny _ _ (pure (((sIx n 0 lo:Nat):Int),(1:Int),Builtin.Slice.slicePlaces ((sIx n 0 lo:Nat):Int) ((sIx n n hi:Nat):Int) 1)) _ _ s;rw [qao];exact gd h
theorem qdv(xs:Array Value)(i k:Nat): ((List.range k).filterMap fun(m:Nat)=>xs[((i:Int)+(m:Int)*1).toNat]?).toArray=((xs.toList.drop i).take k).toArray:=by
 have e:(fun(m:Nat)=>xs[((i:Int)+(m:Int)*1).toNat]?)=fun m=>xs[i+m]? :=by
  funext m
  have:((i:Int)+(m:Int)*1).toNat=i+m:=by omega
  rw [this]
 rw [e];have:=pick_run xs i k;rw [List.filterMap_map] at this;have e2:((fun x=>xs[x]?) ∘ fun x=>i+x)=fun m=>xs[i+m]? :=rfl;rw [e2] at this;rw [this]
theorem getItem_tuple_cut{t sl:Addr}{items:Array Value}{vl vu:Value}{lo hi:Option Int}{Q:Value->Shared->Prop}(ht:IsTup s.heap t items)(hs:s.heap.IsSliceOf sl vl vu .none)(pl:IsPart vl lo)(pu:IsPart vu hi)
  (hw:¬(sIx items.size 0 lo=0/\sIx items.size items.size hi=items.size))
  (h:Q (.ref s.heap.objs.size) {s with heap:=s.heap.push {cls:=.type "tuple",data:=.seq ((items.toList.drop (sIx items.size 0 lo)).take (sIx items.size items.size hi-sIx items.size 0 lo)).toArray} })
  (hsz:items.size<=sizeLine):wpAny (model prog w) A (getItem (.ref t) (.ref sl)) Q E s:=by
 have htake:sizeOk (.seq ((items.toList.drop (sIx items.size 0 lo)).take (sIx items.size items.size hi-sIx items.size 0 lo)).toArray):=by
  show((items.toList.drop (sIx items.size 0 lo)).take (sIx items.size items.size hi-sIx items.size 0 lo)).toArray.size<=sizeLine;rw [gc,mn,nz,pk];omega
 have hj:sIx items.size items.size hi<=items.size:=qi6 _ _ (gm _) hi;obtain⟨os,hos,hcs,hds⟩:=id hs;have hTs:s.TypeIs (.ref sl) "slice" :=⟨os,hos,hcs⟩
 unfold getItem
 try with_reducible refine pz ?_
 first|refine g9 (gd ?_)|skip
 refine g9 (wpAny_sequenceKey ht.typeIs (by decide) ?_);refine g9 (wpAny_callSpecial?_slot (name:=Str.ofString "__getitem__") ht.typeIs mw
  (wpAny_call_entry mw ht.typeIs entry_tuple_getitem ?_ (args_tuple_getitem _ _)))
 show wpAny _ _ (Builtin.Tuple.tupleItemsOf (.ref t) >>= _) _ _ s;refine g9 (tupleItemsOf_ ht ?_);refine g9 (g02 hTs ?_);rw [gu (by decide)];refine g9 (sliceApplied_gen hs pl pu ?_);have hno:¬((((sIx items.size 0 lo:Nat):Int)==0&&(1:Int)==1&&(sIx items.size items.size hi-sIx items.size 0 lo)==items.size)=true):=by
  intro q;rw [mj,mj] at q;have q1:((sIx items.size 0 lo:Nat):Int)=0:=eq_of_beq q.1.1;have q2:sIx items.size items.size hi-sIx items.size 0 lo=items.size:=eq_of_beq q.2;exact hw ⟨by omega,by omega⟩
 show wpAny _ _ (if(((sIx items.size 0 lo:Nat):Int)==0&&(1:Int)==1&&(sIx items.size items.size hi-sIx items.size 0 lo)==items.size)=true then _ else _) _ _ s;rw [mf hno,qdv]
 first
  | exact g9 (m:=Builtin.Tuple.tupleExact _) (nc (gd ⟨_,rfl,gd h⟩) htake)
  | exact g9 (m:=Builtin.Tuple.tupleExact _) (nc (g9 (gd (gd ⟨_,rfl,gd h⟩))) htake)
  | exact g9 (g9 (m:=Builtin.Tuple.tupleExact _) (nc (gd (gd ⟨_,rfl,gd h⟩)) htake))
  | exact g9 (g9 (m:=Builtin.Tuple.tupleExact _) (nc (gd ⟨_,rfl,gd h⟩) htake))
end
end HT
namespace L2
open PySem PySem.Spec PyProof.Rows
abbrev TO:=St->Hp->(Option Int->Hp->Prop)->Prop
def PO(X:Cx)(e:Option Expr)(t:TO): Prop:=
 ∀(pins:List (Addr×Obj)) (s:Shared) (σ : St) (H:Hp) (Q:Option Int->Hp->Prop),Inv X pins σ H s->t σ H Q ->
  wpAny (model X.prog X.w) X.A (evalPart e X.env) (fun u s'=>∃o H',Inv X pins σ H' s'/\IsPart u o/\Q o H') X.xe s
def tNoPart:TO:=fun _ H Q=>Q none H
def qk7(t:TE): TO:=fun σ H Q=>t σ H fun x H1=>∃i,x=.int i/\Q (some i) H1
theorem intsAre_of{ns:List Int}: ∀ {us:List Value},Vals (ns.map V.int) us->IntsAre us ns:=by
 induction ns with
 | nil=>intro us r;rw [g03] at r;cases r;exact .nil
 | cons n ns ih=>
  intro us r;rw [gy] at r;cases r with
  | cons r1 r2=>
   obtain⟨t,e⟩:=r1;subst e;exact .cons n t (ih r2)
section
variable{X:Cx}{e:Expr}{te:TE}{lo hi:Option Expr}{tl th:TO}{pos p2:Pos}
theorem qg3:PO X none tNoPart:=by
 intro pins s σ H Q I h;rw [evalPart_none];exact gd ⟨none,H,I,.none,h⟩
theorem qg4(h:PE X e te): PO X (some e) (qk7 te):=by
 intro pins s σ H Q I hw;rw [evalPart_some];refine thn (h pins s σ H _ I hw) fun u s1 ⟨x,H1,I1,r1,q1⟩=>?_;obtain⟨i,rfl,q⟩:=q1;obtain⟨t,rfl⟩:=r1;exact⟨some i,H1,I1,.int i t,q⟩
def SlR(X:Cx)(r:V->Option Int->Option Int->Hp->VK->Prop): Prop:=
 ∀(pins:List (Addr×Obj)) (s:Shared) (σ : St) (H:Hp) (x:V) (v vl vu:Value) (lo hi:Option Int) (sl:Addr) (Q:VK),Inv X pins σ H s->RelV x v->s.heap.IsSliceOf sl vl vu .none->IsPart vl lo->IsPart vu hi->r x lo hi H Q ->
  ∃T id,typeLookup (.type T) "__getitem__" = pure (some (.builtin id))/\s.TypeIs v T/\wpAny (model X.prog X.w) X.A (getItem v (.ref sl)) (EP X pins σ Q) X.xe s
theorem SlR.or{r r':V->Option Int->Option Int->Hp->VK->Prop}(h:SlR X r)(h':SlR X r'): SlR X (fun x lo hi H Q=>r x lo hi H Q\/r' x lo hi H Q):=by
 intro pins s σ H x v vl vu lo hi sl Q I rx hs pl pu q;rcases q with q|q
 ·exact h pins s σ H x v vl vu lo hi sl Q I rx hs pl pu q
 ·exact h' pins s σ H x v vl vu lo hi sl Q I rx hs pl pu q
def tSl(r:V->Option Int->Option Int->Hp->VK->Prop)(te:TE)(tl th:TO): TE:=fun σ H Q=>te σ H fun x H1=>tl σ H1 fun l H2=>th σ H2 fun u H3=>r x l u H3 Q
theorem q7d{r:V->Option Int->Option Int->Hp->VK->Prop}(hr:SlR X r)(he:PE X e te)(hl:PO X lo tl)(hu:PO X hi th): PE X (.Subscript e (.Slice lo hi none p2) pos) (tSl r te tl th):=by
 intro pins s σ H Q I h;refine Subscript_ (thn (he pins s σ H _ I h) fun v s1 ⟨x,H1,I1,r1,q1⟩=>?_);refine wpAny_Slice (thn (hl pins s1 σ H1 _ I1 q1) fun vl s2 ⟨l,H2,I2,pl,q2⟩=>thn (hu pins s2 σ H2 _ I2 q2) fun vu s3 ⟨u,H3,I3,pu,q3⟩=>?_);rw [evalPart_none];refine gd ?_;have I4:Inv X pins σ H3 {s3 with heap:=s3.heap.push {cls:=.type "slice",data:=.fields #[vl,vu,.none]} }:=I3.kept (t':=s3.toks) fun b ob q=>gb _ q;obtain⟨T,id,hT,ht,hg⟩:=hr pins {s3 with heap:=s3.heap.push {cls:=.type "slice",data:=.fields #[vl,vu,.none]} } σ H3 x v vl vu l u s3.heap.objs.size Q I4 r1 (Heap.IsSliceOf.new ..) pl pu q3;show wpAny (model X.prog X.w) X.A (subscriptTail e (.Slice lo hi none p2) v (.ref s3.heap.objs.size)) (EP X pins σ Q) X.xe {s3 with heap:=s3.heap.push {cls:=.type "slice",data:=.fields #[vl,vu,.none]} };exact tail_any (ops:=[.ref s3.heap.objs.size,v]) ht hT hg (by with_unfolding_all rfl)
def w4(xs:List V)(lo hi:Option Int): List V:=(xs.drop (HT.sIx xs.length 0 lo)).take (HT.sIx xs.length xs.length hi-HT.sIx xs.length 0 lo)
theorem q3g(xs:List V)(lo hi:Option Int): (w4 xs lo hi).length<=xs.length:=by
 unfold w4;rw [mn,nz];omega
def ql1(K:PySem.W.Frag): V->Option Int->Option Int->Hp->VK->Prop:=fun x lo hi H Q=>∃a xs,x=.ref a/\SqT K H a xs /\
 ¬(HT.sIx xs.length 0 lo=0/\HT.sIx xs.length xs.length hi=xs.length)/\∀p,H p=none->Q (.ref p) (upd H p (.tup (w4 xs lo hi)))
theorem sl_tup:SlR X (ql1 X.K):=by
 intro pins s σ H x v vl vu lo hi sl Q I rx hs pl pu h;obtain⟨a,xs,rfl,hx,hw,q⟩:=h;cases rx;obtain⟨its,r,ht,hz⟩:=I.tuple hx;have hlen:its.toArray.size=xs.length:=by rw [gc];exact r.length.symm
 refine⟨"tuple",_,mw.lookup,ht.typeIs,?_⟩;refine HT.getItem_tuple_cut ht hs pl pu (by rw [hlen];exact hw) ?_ (by rw [hlen];exact hz);rw [hlen];refine⟨.ref s.heap.objs.size,_,I.laid (t':=s.toks) (o:=.tup (w4 xs lo hi)) (fun b ob q=>gb _ q) (gm _) ?_,rfl,q _ (I.hok.fresh (gm _))⟩;exact⟨ma (q3g xs lo hi) hz,_,(r.drop (HT.sIx xs.length 0 lo)).take (HT.sIx xs.length xs.length hi-HT.sIx xs.length 0 lo),TupX.new _ _⟩
def qk8(K:PySem.W.Frag): R2:=fun x y H Q=>∃a b xs ys,x=.ref a/\y=.ref b/\SqT K H a xs/\SqT K H b ys/\xs≠[]/\xs.length+ys.length<=sizeLine /\
 (ys=[]->Q (.ref a) H)/\(ys≠[]->∀p,H p=none->Q (.ref p) (upd H p (.tup (xs++ys))))
theorem Vals.nil_iff{xs:List V}{us:List Value}(r:Vals xs us): us=[]↔xs=[]:=by
 cases r with
 | nil=>simp
 | cons _ _=>simp
theorem qg5:OpR X (binaryOp .Add) (qk8 X.K):=by
 intro pins s σ H x y v u Q I rx ry h;obtain⟨a,b,xs,ys,rfl,rfl,ha,hb,hx,hz,q1,q2⟩:=h;cases rx;cases ry;obtain⟨its,r1,p1,_⟩:=I.tuple ha;obtain⟨its2,r2,p2,_⟩:=I.tuple hb;refine HT.cat_tup p1 p2 (fun z=>hx (r1.nil_iff.mp z)) (fun z=>⟨.ref a,H,I,rfl,q1 (r2.nil_iff.mp z)⟩) (fun z=>?_) (by rw [<- r1.length, <- r2.length];exact hz);refine⟨.ref s.heap.objs.size,_,I.laid (t':=s.toks) (o:=.tup (xs++ys)) (fun b ob q=>gb _ q) (gm _) ?_,rfl,q2 (fun w=>z (r2.nil_iff.mpr w)) _ (I.hok.fresh (gm _))⟩;exact⟨by rw [gh];exact hz,_,r1.append r2,TupX.new _ _⟩
end
def ixN(n:Nat)(i:Int): Option Nat:=if 0<=i then(if i<n then some i.toNat else none) else if -(n:Int)<=i then some (i+n).toNat else none
def atI{α : Type}(xs:List α)(i:Int): Option α :=(ixN xs.length i).bind fun j=>xs[j]?
theorem qg6{n:Nat}{i:Int}{j:Nat}(h:ixN n i=some j): seqIndex? i n=some j/\j<n /\ -(n:Int)<=i/\i<n:=by
 unfold ixN at h
 by_cases h0:0<=i
 ·rw [gu h0] at h
  by_cases h1:i<n
  ·rw [gu h1] at h
   have e:i.toNat=j:=mi h;exact⟨by rw [seqIndex_of h0 h1,e],by omega,by omega,h1⟩
  ·rw [mf h1] at h;cases h
 ·rw [mf h0] at h
  by_cases h1 : -(n:Int)<=i
  ·rw [gu h1] at h
   have e:(i+n).toNat=j:=mi h;exact⟨by rw [seqIndex_neg (by omega) h1,e],by omega,h1,by omega⟩
  ·rw [mf h1] at h;cases h
theorem q5b{α : Type}{xs:List α}{i:Int}{v : α}(h:atI xs i=some v): ∃j,seqIndex? i xs.length=some j/\xs[j]? = some v/\j<xs.length /\ -(xs.length:Int)<=i/\i<xs.length:=by
 unfold atI at h;cases e:ixN xs.length i with
 | none=>rw [e] at h;cases h
 | some j=>
  rw [e] at h;obtain⟨h1,h2,h3,h4⟩:=qg6 e;exact⟨j,h1,h,h2,h3,h4⟩
def q30(b:Expr): Prop:=∀o i,subscripted b false o i=operate [o,i] (getItem o i)
def IxR(X:Cx)(r:R2): Prop:=
 ∀(value slice:Expr) (pins:List (Addr×Obj)) (s:Shared) (σ : St) (H:Hp) (x y:V) (v u:Value) (Q:VK),Inv X pins σ H s->RelV x v->RelV y u->r x y H Q ->
  subscripted slice false v u=operate [v,u] (getItem v u)->wpAny (model X.prog X.w) X.A (subscriptTail value slice v u) (EP X pins σ Q) X.xe s
def MtR(X:Cx)(id:String)(r:V->List V->Hp->VK->Prop): Prop:=
 ∀(pins:List (Addr×Obj)) (s:Shared) (σ : St) (H:Hp) (x:V) (xs:List V) (v:Value) (us:List Value) (Q:VK),Inv X pins σ H s->RelV x v->Vals xs us->r x xs H Q ->
  wpAny (model X.prog X.w) X.A (call (.builtin id) (v :: us)) (EP X pins σ Q) X.xe s
section
variable{X:Cx}{a b:Expr}{ta tb:TE}{pos:Pos}
theorem IxR.or{r r':R2}(h:IxR X r)(h':IxR X r'): IxR X (fun x y H Q=>r x y H Q\/r' x y H Q):=by
 intro value slice pins s σ H x y v u Q I rx ry q hs;rcases q with q|q
 ·exact h value slice pins s σ H x y v u Q I rx ry q hs
 ·exact h' value slice pins s σ H x y v u Q I rx ry q hs
theorem qap{r:R2}(hr:IxR X r)(ha:PE X a ta)(hb:PE X b tb)(hs:q30 b): PE X (.Subscript a b pos) (tOp r ta tb):=by
 intro pins s σ H Q I h;exact Subscript_ (qdq ha hb I h fun v u s2 x y H2 I2 rx ry q=>hr a b pins s2 σ H2 x y v u Q I2 rx ry q (hs _ _))
def qi7(K:PySem.W.Frag): R2:=fun x y H Q=>∃p xs i v,x=.ref p/\y=.int i/\SqL K H p xs/\atI xs i=some v/\Q v H
def qi8(K:PySem.W.Frag): R2:=fun x y H Q=>∃p xs i v,x=.ref p/\y=.int i/\SqT K H p xs/\atI xs i=some v/\Q v H
def rIxS:R2:=fun x y H Q=>∃z i c,x=.str z/\y=.int i/\z.length<=sizeLine/\atI z.cps.toList i=some c/\Q (.str ⟨#[c]⟩) H
theorem ix_list:IxR X (qi7 X.K):=by
 intro value slice pins s σ H x y v u Q I rx ry h hs;obtain⟨p,xs,i,z,rfl,rfl,hq,he,q⟩:=h;cases rx;obtain⟨t,rfl⟩:=ry;obtain⟨its,r,pl,hz⟩:=I.list hq;obtain⟨j,h1,h2,h3,h4,h5⟩:=q5b he;obtain⟨w,ew,rw'⟩:=r.get h2;have hl:=r.length;have hn:=q23;have fin:EP X pins σ Q w s:=⟨z,H,I,rw',q⟩
 by_cases h0:0<=i
 ·have hj:i.toNat=j:=by
   rw [seqIndex_of h0 h5] at h1;exact mi h1
  exact item_listR pl.isList h0 (by omega) (by rw [hj];simpa using ew) fin hs
 ·have hj:(i+(its.toArray.size:Int)).toNat=j:=by
   rw [seqIndex_neg (by omega) h4] at h1;rw [gc, <- hl];exact mi h1
  exact subscriptTail_builtinR (x:=w) pl.isList.typeIs slot_list_getitem.lookup
   (wpAny_getItem_list_neg (Q:=fun r s'=>r=w/\EP X pins σ Q r s') pl.isList (by omega) (by rw [gc] <;> omega) (by omega) (by rw [hj];simpa using ew) ⟨rfl,fin⟩) hs
theorem ix_tup:IxR X (qi8 X.K):=by
 intro value slice pins s σ H x y v u Q I rx ry h hs;obtain⟨p,xs,i,z,rfl,rfl,hq,he,q⟩:=h;cases rx;obtain⟨t,rfl⟩:=ry;obtain⟨its,r,pl,hz⟩:=I.tuple hq;obtain⟨j,h1,h2,h3,h4,h5⟩:=q5b he;obtain⟨w,ew,rw'⟩:=r.get h2;have hl:=r.length;have hn:=q23;have fin:EP X pins σ Q w s:=⟨z,H,I,rw',q⟩
 exact subscriptTail_builtinR (x:=w) pl.typeIs slot_tuple_getitem.lookup
  (getItem_tuple (j:=j) (Q:=fun r s'=>r=w/\EP X pins σ Q r s') pl (by omega) (by omega) (by rw [gc, <- hl];exact h1) (by simpa using ew) ⟨rfl,fin⟩) hs
theorem qc4:IxR X rIxS:=by
 intro value slice pins s σ H x y v u Q I rx ry h hs;obtain⟨z,i,c,rfl,rfl,hz,he,q⟩:=h;obtain⟨t,rfl⟩:=rx;obtain⟨t',rfl⟩:=ry;obtain⟨j,h1,h2,h3,h4,h5⟩:=q5b he;have hl:z.cps.toList.length=z.length:=by simp [Str.length]
 rw [hl] at h1 h4 h5;have hn:=q23;exact tail_any (g04 s z t) slot_str_getitem.lookup (getItem_str (c:=c) (by
  have e1:decide (i < -(2 ^ 63:Int))=false:=m8 (by omega);have e2:decide (i>=2 ^ 63)=false:=m8 (by omega);rw [e1,e2,Bool.or_false]) (by rw [h1];simpa using h2) ⟨.str ⟨#[c]⟩,H,I.tok _,⟨_,rfl⟩,q⟩) hs
def rIx(K:PySem.W.Frag): R2:=fun x y H Q=>qi7 K x y H Q\/qi8 K x y H Q\/rIxS x y H Q
theorem qi9:IxR X (rIx X.K):=ix_list.or (ix_tup.or qc4)
def qff:V->V->V->Hp->(Hp->Prop)->Prop:=fun o i v H Q=>∃p xs k j,o=.ref p/\i=.int k/\H p=some (.lst xs)/\ixN xs.length k=some j/\Q (upd H p (.lst (xs.set j v)))
theorem q7e(lo hi:Option Int)(n:Nat): (sliceBounds lo hi none n).1=((HT.sIx n 0 lo:Nat):Int)/\(sliceBounds lo hi none n).2.1=((HT.sIx n n hi:Nat):Int)/\(sliceBounds lo hi none n).2.2=1:=by
 refine⟨?_,?_,rfl⟩
 ·cases lo with
  | none=>simp [sliceBounds,HT.sIx]
  | some i=>
   simp only [sliceBounds,HT.sIx,Option.getD_none,show(1:Int)>0 by decide,pd]
   by_cases h:i<0
   ·simp only [h,pd] <;> omega
   ·simp only [h,g0g] <;> omega
 ·cases hi with
  | none=>simp [sliceBounds,HT.sIx]
  | some i=>
   simp only [sliceBounds,HT.sIx,Option.getD_none,show(1:Int)>0 by decide,pd]
   by_cases h:i<0
   ·simp only [h,pd] <;> omega
   ·simp only [h,g0g] <;> omega
theorem q6p(its:List Value)(lo hi:Option Int): slicePick its.toArray lo hi none=((its.drop (HT.sIx its.length 0 lo)).take (HT.sIx its.length its.length hi-HT.sIx its.length 0 lo)).toArray:=by
 obtain⟨h1,h2,h3⟩:=q7e lo hi its.toArray.size;unfold slicePick;rw [h1,h2,h3];simp only [sliceRange_one,pick_run,gc] <;> rfl
def ql2(K:PySem.W.Frag): V->Option Int->Option Int->Hp->VK->Prop:=fun x lo hi H Q=>∃a xs,x=.ref a/\SqL K H a xs/\∀p,H p=none->Q (.ref p) (upd H p (.lst (w4 xs lo hi)))
theorem sl_list:SlR X (ql2 X.K):=by
 intro pins s σ H x v vl vu lo hi sl Q I rx hs pl pu h;obtain⟨a,xs,rfl,hx,q⟩:=h;cases rx;obtain⟨its,r,ht,hz⟩:=I.list hx;have hlen:=r.length;refine⟨"list",_,slot_list_getitem.lookup,ht.isList.typeIs,?_⟩;refine wpAny_getItem_list_slice ht.isList hs pl pu .none (by simp) ?_ (by rw [gc] <;> omega);rw [q6p, <- hlen];refine⟨.ref s.heap.objs.size,_,I.laid (t':=s.toks) (o:=.lst (w4 xs lo hi)) (fun b ob q=>gb _ q) (gm _) ?_,rfl,q _ (I.hok.fresh (gm _))⟩;exact⟨ma (q3g xs lo hi) hz,_,0,(r.drop (HT.sIx xs.length 0 lo)).take (HT.sIx xs.length xs.length hi-HT.sIx xs.length 0 lo),m4 _ rfl⟩
def q6w:V->Bool
 | .non=>true
 | .bl _=>true
 | .int _=>true
 | .str _=>true
 | _=>false
def eqV:V->V->Bool
 | .non,.non=>true
 | .bl a,.bl b=>a==b
 | .bl a,.int b=>(if a then 1 else 0)==b
 | .int a,.bl b=>a==(if b then 1 else 0)
 | .int a,.int b=>a==b
 | .str a,.str b=>a==b
 | _,_=>false
theorem qia{A:Around}{s:Shared}{y x:V}{u v:Value}(ry:RelV y u)(rx:RelV x v)(fy:q6w y=true)(fx:q6w x=true): SeqAt.EqAt A s u v (eqV y x):=by
 cases y with
 | non=>
  cases ry;cases x with
  | non=>cases rx;exact g1c _
  | bl b=>cases rx;exact SeqAt.EqAt.none_bool b
  | int b=>obtain⟨t,rfl⟩:=rx;exact SeqAt.EqAt.none_int b t
  | str b=>obtain⟨t,rfl⟩:=rx;exact SeqAt.EqAt.none_str b t
  | _=>exact absurd (show false=true from fx) gx
 | bl a=>
  cases ry;cases x with
  | non=>cases rx;exact SeqAt.EqAt.bool_none a
  | bl b=>cases rx;exact SeqAt.EqAt.bool_bool a b
  | int b=>obtain⟨t,rfl⟩:=rx;exact SeqAt.EqAt.bool_int a b t
  | str b=>obtain⟨t,rfl⟩:=rx;exact SeqAt.EqAt.bool_str a b t
  | _=>exact absurd (show false=true from fx) gx
 | int a=>
  obtain⟨t',rfl⟩:=ry;cases x with
  | non=>cases rx;exact SeqAt.EqAt.int_none a t'
  | bl b=>cases rx;exact SeqAt.EqAt.int_bool a t' b
  | int b=>obtain⟨t,rfl⟩:=rx;exact SeqAt.EqAt.int_int a t' b t
  | str b=>obtain⟨t,rfl⟩:=rx;exact SeqAt.EqAt.int_str a t' b t
  | _=>exact absurd (show false=true from fx) gx
 | str a=>
  obtain⟨t',rfl⟩:=ry;cases x with
  | non=>cases rx;exact SeqAt.EqAt.str_none a t'
  | bl b=>cases rx;exact SeqAt.EqAt.str_bool a t' b
  | int b=>obtain⟨t,rfl⟩:=rx;exact SeqAt.EqAt.str_int a t' b t
  | str b=>obtain⟨t,rfl⟩:=rx;exact SeqAt.EqAt.str_str a t' b t
  | _=>exact absurd (show false=true from fx) gx
 | _=>exact absurd (show false=true from fy) gx
theorem q6q:zm X (.type "tuple") (fun xs H Q=>∃p ys,xs=[.ref p]/\((SqL X.K H p ys/\∀l,H l=none->Q (.ref l) (upd H l (.tup ys)))\/(SqT X.K H p ys/\Q (.ref p) H))):=by
 intro pins s σ H xs us Q I r h;obtain⟨p,ys,rfl,h⟩:=h;obtain⟨u,rfl,rx⟩:=vals1 r;cases rx;rcases h with⟨hq,q⟩|⟨hq,q⟩
 ·obtain⟨its,r',pl,hz⟩:=I.list hq
  have hlen:=r'.length;refine call_tuple_list pl.isList (fun h' kp=>?_) (by simp only [gc] <;> omega);have I1:Inv X pins σ H {s with heap:=h'}:=I.kept (t':=s.toks) kp;have I2:Inv X pins σ (upd H h'.objs.size (.tup ys)) {s with heap:=h'.push {cls:=.type "tuple",data:=.seq its.toArray} }:=
   I1.laid (t':=s.toks) (fun b o e=>gb _ e) (gm _) (show ObjOk X.prog X.w _ _ _ (.tup ys) from⟨hz,its,r',TupX.new _ _⟩)
  exact⟨.ref h'.objs.size,_,I2,rfl,q _ (I1.hok.fresh (gm _))⟩
 ·obtain⟨its,r',pl,hz⟩:=I.tuple hq
  exact call_tuple_same pl ⟨.ref p,H,I,rfl,q⟩
def tyV(K:PySem.W.Frag)(T:String)(x:V)(H:Hp): Prop:=match x with
 | .str _=>T="str"
 | .int _=>T="int"
 | .ref p=>(T="list" /\ ∃xs,SqL K H p xs)\/(T="tuple" /\ ∃o,K.lookup p=some o/\o.cls=.type "tuple" /\ o.dict=none) \/
   (T="dict" /\ ((∃kvs,H p=some (.dK kvs))\/∃kvs,H p=some (.dT kvs)))\/(T="set" /\ ∃S n,H p=some (.set S n))
 | _=>False
theorem qib{pins:List (Addr×Obj)}{σ : St}{H:Hp}{s:Shared}{T:String}{x:V}{v:Value}(I:Inv X pins σ H s)(r:RelV x v)(ty:tyV X.K T x H):
  s.TypeIs v T/\∀a,v=.ref a->∃ob,s.heap.get? a=some ob/\ob.dict=none:=by
 cases x with
 | str z=>
  obtain⟨t,rfl⟩:=r;cases(show T="str" from ty);exact⟨g04 s z t,fun _ e=>nomatch e⟩
 | int i=>
  obtain⟨t,rfl⟩:=r;cases(show T="int" from ty);exact⟨typeIs_int s i t,fun _ e=>nomatch e⟩
 | ref p=>
  cases r;rcases ty with⟨rfl,xs,hq⟩|⟨rfl,o,hk,hc,hd⟩|⟨rfl,hk⟩|⟨rfl,S,n,hk⟩
  ·obtain⟨its,_,pl,_⟩:=I.list hq
   refine⟨pl.isList.typeIs,fun a e=>?_⟩;cases e;obtain⟨o,n,e,c,hd,_⟩:=pl;exact⟨o,e,hd⟩
  ·refine⟨⟨o,I.kIn p o hk,hc⟩,fun a e=>?_⟩
   cases e;exact⟨o,I.kIn _ o hk,hd⟩
  ·have z:∃o,s.heap.get? p=some o/\o.ExactDict:=by
    rcases hk with⟨kvs,hk⟩|⟨kvs,hk⟩
    ·obtain⟨_,_,_,_,o,_,_,e,ex,_⟩:=I.hok p _ hk
     exact⟨o,e,ex⟩
    ·obtain⟨_,_,_,_,o,_,_,e,ex,_⟩:=I.hok p _ hk
     exact⟨o,e,ex⟩
   obtain⟨o,e,ex⟩:=z;refine⟨⟨o,e,ex.1⟩,fun a e2=>?_⟩;cases e2;exact⟨o,e,ex.2.1⟩
  ·obtain⟨o,_,_,_,e,ex,_⟩:=I.hok p _ hk
   refine⟨⟨o,e,ex.1⟩,fun a e2=>?_⟩;cases e2;exact⟨o,e,ex.2.1⟩
 | _=>exact False.elim ty
def tBM(K:PySem.W.Frag)(T:String)(r:V->List V->Hp->VK->Prop)(to:TE)(t:TA): TE:=fun σ H Q=>to σ H fun x H1=>tyV K T x H1/\t σ H1 fun xs H2=>r x xs H2 Q
variable{o e:Expr}{es:List Expr}{to:TE}{t:TA}{name:Str}{apos cpos:Pos}{T id:String}{r:V->List V->Hp->VK->Prop}
theorem q4a(pa:PlainAttrs T)(slot:Slot T name id)(hty:typeOf (.builtin id)=pure (.type "method_descriptor"))(hm:MtR X id r)(ho:PE X o to)(ha:PA X (e :: es) t)
  (hbase:attributeBase o name X.env (eval o X.env)=eval o X.env:=by rfl)
  (hfew:((backTo cpos (starEach (e :: es) X.env)).all (fun x=> !x.1)&&(backToKw cpos (keywordEach [] X.env)).all (fun x=>x.1.isSome)
   && decide ((e :: es).length+([]:List Keyword).length+(if([]:List Keyword).isEmpty then 0 else 1)<30))=true:=by rfl)
  (hline:(apos.endLine==cpos.line)=true:=by rfl) (hs:starEach (e :: es) X.env=(false,eval e X.env) :: starEach es X.env:=by rfl) (hplain:(backTo cpos (starEach es X.env)).any (·.1)=false:=by rfl) :
  PE X (.Call (.Attribute o name apos) (e :: es) [] cpos) (tBM X.K T r to t):=by
 intro pins s σ H Q I h;refine wpAny_Call_method_late hbase hfew hline rfl (thn (ho pins s σ H _ I h) fun v s1 ⟨x,H1,I1,r1,ty,q1⟩=>?_);obtain⟨h1,h2⟩:=qib I1 r1 ty;refine⟨T,id,pa,slot,hty,h1,h2,?_⟩;have hA:=ha cpos pins s1 σ H1 _ I1 q1;rw [hs] at hA ⊢;refine Calls.callWith_builtin (by show(false || (backTo cpos (starEach es X.env)).any (·.1))=false;rw [hplain] <;> rfl) (Calls.evalArgs_plain ?_);exact thn hA fun us s2 ⟨vs,H2,I2,r2,q2⟩=>hm pins s2 σ H2 x vs v us Q I2 r1 r2 q2
end
def MtM(X:Cx)(id:String)(r:V->List V->Hp->VK->Prop): Prop:=
 ∀(pins:List (Addr×Obj)) (s:Shared) (σ : St) (H:Hp) (x:V) (xs:List V) (v:Value) (us:List Value) (Q:VK),Inv X pins σ H s->RelV x v->Vals xs us->r x xs H Q ->
  wpAny (model X.prog X.w) X.A (call (.builtin id) (v :: us)) (EP X pins σ Q) X.xe s
theorem Vals.one:∀ {x:V} {us:List Value},Vals [x] us->∃u,us=[u]/\RelV x u
 | _,_,.cons r .nil=>⟨_,rfl,r⟩
theorem Vals.two:∀ {x y:V} {us:List Value},Vals [x,y] us->∃u v,us=[u,v]/\RelV x u/\RelV y v
 | _,_,_,.cons r (.cons q .nil)=>⟨_,_,rfl,r,q⟩
section
variable{X:Cx}{pins:List (Addr×Obj)}{σ : St}{H:Hp}{s:Shared}{l b:Addr}{xs ys zs:List V}
theorem Inv.lset{its its':List Value}{n:Nat}{f:Array Value->Array Value}{t':Nat}(I:Inv X pins σ H s)(hH:H l=some (.lst xs))
  (e:s.heap.get? l=some {cls:=.type "list",data:=.seq its.toArray n}) (hf:f its.toArray=its'.toArray) (hv:Vals ys its') (hz:ys.length<=sizeLine) :
  Inv X pins σ (upd H l (.lst ys)) {s with heap:=s.heap.update l (Obj.mapSeq f),toks:=t'}:=by
 have q:=PySem.IsL.update e f;rw [hf] at q;refine I.write (x:=l) (e:=l) (by rw [hH];exact trivial) (.inl rfl) (fun b' u hb hu=>(Heap.get?_update_other s.heap (Obj.mapSeq f) (m5 hb)).trans hu) ⟨_,q⟩ ?_;exact⟨hz,its',_,hv,q⟩
theorem Inv.lnew{its:List Value}{t':Nat}(I:Inv X pins σ H s)(hv:Vals ys its)(hz:ys.length<=sizeLine):
  Inv X pins σ (upd H s.heap.objs.size (.lst ys)) {s with heap:=s.heap.push {cls:=.type "list",data:=.seq its.toArray},toks:=t'}:=
 I.laid (fun _ _ q=>gb _ q) (gm _) ⟨hz,its,0,hv,m4 _ rfl⟩
theorem Inv.fresh(I:Inv X pins σ H s): H s.heap.objs.size=none:=I.hok.fresh (gm _)
theorem Inv.lstM(I:Inv X pins σ H s)(hH:H l=some (.lst xs)): xs.length<=sizeLine/\∃(its:List Value) (n:Nat),Vals xs its/\xs.length=its.length/\s.heap.get? l=some {cls:=.type "list",data:=.seq its.toArray n}:=by
 obtain⟨z,its,n,r,e⟩:=I.hok l _ hH;exact⟨z,its,n,r,r.length,e⟩
end
section
variable{X:Cx}
def rAppend:V->List V->Hp->VK->Prop:=fun x vs H Q=>∃l xs y,x=.ref l/\vs=[y]/\H l=some (.lst xs)/\xs.length<sizeLine/\Q .non (upd H l (.lst (xs++[y])))
theorem q64:MtM X "list.append" rAppend:=by
 intro pins s σ H x vs v us Q I rx rv h;obtain⟨l,xs,y,rfl,rfl,hH,hz,q⟩:=h;cases rx;obtain⟨u,rfl,ru⟩:=rv.one;obtain⟨z,its,n,r,hl,e⟩:=I.lstM hH;refine tq F.slot_list_append ⟨_,e,rfl⟩ F.entry_list_append (F.args_list_append_2 _ _) (PySem.list_append l its.toArray n u (by rw [gc];omega)) ⟨e,?_⟩;refine⟨.non,_,I.lset (its':=its++[u]) hH e (by simp) (r.append (.cons ru .nil)) ?_,rfl,q⟩;rw [gh,gs];omega
end
section
variable{prog:Program}{w:World}{A:Around}{E:Value->Shared->Prop}{s:Shared}
end
section
variable{X:Cx}
end
end L2
namespace Att
open PySem PySem.W PySem.Calls PyProof.Rows
theorem q4b{P:Params}{h:Heap}: ∀(ns:List Int) (vs:List Value),WellAll P h vs (ns.map WData.int)->IntsAre vs ns:=by
 intro ns
 induction ns with
 | nil=>
  intro vs w;rw [g03] at w;cases w;exact .nil
 | cons n ns ih=>
  intro vs w;rw [gy] at w;cases w with
  | cons a b=>
   cases a;exact .cons _ _ (ih _ b)
theorem qc5{l:OpenLaw}{n:Nat}(hn:l.most=some n){P:Params}{h:Heap}{args:List WData}{vals:List Value}
  (hpre:l.row.toRowW.claim.pre args=true) (hwl:WellAll P h vals args) :
  ∃a vs ns,vals=[Value.ref a]/\args=[WData.list (ns.map WData.int)]/\h.get? a=some {cls:=.type "list",data:=.seq vs.toArray}/\IntsAre vs ns/\ns.length<=n:=by
 have hsh:WShape.hasAll [] args [.list .int]=true:=(pre_splitW hpre).1;have hc:l.pre.holds [] {args:=args}=true:=(pre_splitW hpre).2;obtain⟨d,r,rfl,h1,h2⟩:=hasAllW_cons hsh;obtain rfl:=hasAllW_nil h2;obtain⟨xs,rfl,h3⟩:=hasW_list h1;obtain⟨ns,rfl⟩:=items_int h3;have hlen:ns.length<=n:=by
  unfold OpenLaw.pre at hc;have h4:(WTm.not (.lt (.lit (.int (n:Int))) (.len (.arg 0)))).holds [] {args:=[.list (ns.map .int)]}=true:=by
   have h4:=(holds_andW hc).1;rw [hn] at h4;exact h4
  have h5:=condW_of h4 (w_not (w_lt w_lit (w_len_list (w_arg rfl))));rw [g7] at h5;refine Nat.le_of_not_lt fun q=>?_;have q':(n:Int)<((ns.length:Nat):Int):=by omega
  first
   | (rw [m9 q'] at h5;exact absurd h5 (by decide))
   | (simp at h5;omega)
 cases hwl with
 | cons w1 w2=>
  cases w2;cases w1 with
  | list ho hall=>exact⟨_,_,ns,rfl,rfl,ho,q4b ns _ hall,hlen⟩
theorem qc6(l:OpenLaw)(args:List WData): l.row.toRowW.claim.post args (.bool true) args=true:=
 postW_of (r:=l.row.toRowW) (X:=(true==true))
  (show WShape.has [] (.bool true) .bool=true by first|rfl|decide|simp [WShape.has,WShape.arms,WShape.armsAll])
  (show(WTm.eq .res (.lit (.bool true))).value [] {args:=args,res:=some (.bool true),after:=args}=some (.bool (true==true)) from w_eq_bool (w_res rfl) w_lit) rfl
theorem attach_call{l:OpenLaw}{n:Nat}{q:Program}{loose:List Str}{XP:(Str->Option Value)->Heap->Prop}{YP:World->Heap->Prop}{d:DefRec}
  (hn:l.most=some n) (hdf:d.params.defaults=[])
  (call:∀(w:World) (s₀ s₁:Shared) (mg mb:Str->Option Value) (fa:Addr) (o:Obj) (pm cd doc:Value) (a:Addr) (vs:List Value) (ns:List Int),
   Ground q loose [] XP w s₀ mg mb s₁.heap->YP w s₁.heap ->
   s₁.heap.get? fa=some o->o.data=.func (docDef d.name d.params d.body d.scope pm cd doc)->s₁.heap.CodeRec cd d.name->mg d.name=some (.ref fa) ->
   s₁.heap.get? a=some {cls:=.type "list",data:=.seq vs.toArray}->IntsAre vs ns->ns.length<=n->s₁.gens = #[] ->
   codeAny (model l.prog w) callerA (.call (.ref fa) ⟨[.ref a],[]⟩) (fun r s'=>r=.ok (.ret (.bool true))/\OldK s₁.heap s'.heap/\s'.os=s₁.os/\AllBare s'.gens) s₁) :
  WalkO q loose XP YP l.row.toRowW d [] (fun f vs=>PySem.call f vs):=by
 intro w s₀ s₁ mg mb G Y fa o pm cd doc dV kV ho hd hcd hD hmg hg args vals as hpre hlay hrd hwl hlo;obtain rfl:dV=.none:=Dflts.none hD hdf;obtain rfl:kV=.none:=Dflts.noKw hD;obtain⟨a,vs,ns,rfl,rfl,hobj,hints,hlen⟩:=qc5 hn hpre hwl;refine enter_call (u7 (call w s₀ s₁ mg mb fa o pm cd doc a vs ns G Y ho (fd_plain hd) hcd hmg hobj hints hlen hg) fun r s' hq=>?_);obtain⟨rfl,h2,h3,h4⟩:=hq;exact⟨.inl ⟨.bool true,.bool true,[],rfl,fun _=>rfl,.bool true,qc6 l _,fun _=>⟨List.Pairwise.nil,fun _ hm=>(nomatch hm)⟩⟩,h2,h3,h4⟩
section
variable{prog:Program}{w:World}{A:Around}{E:Value->Shared->Prop}{s:Shared}{K:Frag}
end
end Att
namespace L2
open PySem PySem.Spec PyProof.Rows
theorem kj:∀ {vs:List Value} {ns:List Int},IntsAre vs ns->Vals (ns.map V.int) vs
 | _,_,.nil=>.nil
 | _,_,.cons n t h=>.cons ⟨t,rfl⟩ (kj h)
def qdw(H:Hp): Prop:=∀b,H b=none\/∃o xs,H b=some (.frz o (.lst xs))
theorem qdx{P:Program}{w:World}{K:PySem.W.Frag}{mg mb:Str->Option Value}{CX:CXT}{k:Nat}{fa a:Addr}{fd:FuncData}{x:Str}{sp:Sp}{s₁:Shared}{vs:List Value}{ns:List Int}
  (KX:K.In s₁.heap) (hns:s₁.heap.Ns mainGlobals mg) (hb:s₁.heap.Ns builtinsNs mb) (hbb:∀x:Str,x≠"__name__" -> mb x=bootBuiltins x) (hlim:s₁.heap.NoLimit) (hg:s₁.gens = #[])
  (ha:s₁.heap.get? a=some {cls:=.type "list",data:=.seq vs.toArray}) (hi:IntsAre vs ns) (hl:ns.length<=sizeLine) (hr:Room k callerA)
  (F:∀base:Heap,K.In base->base.Ns mainGlobals mg->FnOk P w K mg base CX k fa fd [x] sp) (hbind:∀(s:Shared) (u:Value),BindsTo s fd ⟨[u],[]⟩ [(x,u)])
  (hsp:∀H:Hp,qdw H->SqL K H a (ns.map V.int)->sp [.ref a] H (fun v _=>v=.bl true) fun _ _ _=>False)
  (hCX:∀H e s',CX [] H s₁ (fun _ _ _=>False) e s'->False) :
  codeAny (model P w) callerA (.call (.ref fa) ⟨[.ref a],[]⟩) (fun r s'=>r=.ok (.ret (.bool true))/\OldK s₁.heap s'.heap/\s'.os=s₁.os/\AllBare s'.gens) s₁:=by
 have rv:=kj hi;have lenV:=hi.length
 -- from an abstract heap in which nothing but the script may be tracked
 have core:∀H:Hp,qdw H->SqL K H a (ns.map V.int)->HOk P w H s₁.heap->(∀b,H b≠none->b=a)->(H a≠none->K.lookup a=none) ->
   codeAny (model P w) callerA (.call (.ref fa) ⟨[.ref a],[]⟩) (fun r s'=>r=.ok (.ret (.bool true))/\OldK s₁.heap s'.heap/\s'.os=s₁.os/\AllBare s'.gens) s₁:=by
  intro H hO hS hok hA hK;have base_of:∀ {b:Addr} {o:Obj},s₁.heap.get? b=some o->H b=none->(q1g s₁.heap H).get? b=some o:=fun e n=>qdp e n;have noA:∀ {b:Addr} {o:Obj} {es:Array DictEntry} {ep:Nat},s₁.heap.get? b=some o->o.data=.dict es ep->H b=none:=fun {b o es ep} e d=>by
   cases q:H b with
   | none=>rfl
   | some u=>
    have e':b=a:=hA b (by rw [q];simp);subst e';rw [ha] at e;cases e;have d':Data.seq vs.toArray _=Data.dict es ep:=d;cases d'
  have nsK:∀ {b:Addr} {m:Str->Option Value},s₁.heap.Ns b m->(q1g s₁.heap H).Ns b m:=fun {b m} ⟨o,es,ep,e,d,r⟩=>⟨o,es,ep,base_of e (noA e d),d,r⟩
  have hKb:K.In (q1g s₁.heap H):=fun b o e=>base_of (KX b o e) (by
   cases q:H b with
   | none=>rfl
   | some u=>
    have e':b=a:=hA b (by rw [q];simp);subst e';rw [hK (by rw [q];simp)] at e;cases e)
  have hM:Mod K mg (q1g s₁.heap H):=⟨hKb,nsK hns,⟨mb,nsK hb,hbb⟩,let⟨mc,h1,h2⟩:=hlim; ⟨mc,nsK h1,h2⟩⟩
  have e0:Env0 P w K mg (q1g s₁.heap H) callerA [] s₁ H:=⟨rfl,hM,fun b o e=>qfr e,Nat.le_of_eq (qbs _ _),trivial,fun b hb=>absurd (show b∈([]:List Addr) from hb) (by simp),hok,.of_eq hg⟩
  refine u7 ((F _ hKb (nsK hns)).run callerA [] s₁ H ⟨[.ref a],[]⟩ [.ref a] [.ref a] _ _ hr e0 (hbind s₁ (.ref a)) (.cons rfl .nil) (hsp H hO hS)) fun r s' h=>?_;cases r with
  | error e=>exact(hCX H e s' h).elim
  | ok fl=>
   cases fl with
   | next=>exact False.elim h
   | brk=>exact False.elim h
   | cont=>exact False.elim h
   | ret u=>
    obtain⟨v,H',os,bare,un,hok',r',q⟩:=h;have q':v=.bl true:=q;subst q';obtain rfl:u=Value.bool true:=r';refine⟨rfl,OldK.of_keep fun b o e=>?_,os,bare⟩;cases q:H b with
    | none=>exact un.keep b o e q (by intro z;exact absurd (show b∈([]:List Addr) from z) (by simp)) (by simp)
    | some u=>
     rcases hO b with z|⟨ob,xs,z⟩
     ·rw [q] at z;cases z
     ·have z2:=un.frzs b ob _ z
      obtain⟨e1,_⟩:=hok b _ z;obtain⟨e2,_⟩:=hok' b _ z2;rw [e] at e1;cases e1;exact e2
 cases hk:K.lookup a with
 | some o=>
  -- the script is one of the module's own objects
  have e:=KX a o hk;rw [ha] at e;cases e;refine core (fun _=>none) (fun _=>.inl rfl) (.inr ⟨_,vs.toArray,_,hk,rfl,rfl,rfl,by rw [gc,lenV];exact hl,by simpa using rv⟩) (fun b u z=>by have z':(none:Option HO)=some u:=z;cases z') (fun b z=>absurd rfl z) fun z=>absurd rfl z
 | none=>
  refine core (fun b=>if b=a then some (.frz {cls:=.type "list",data:=.seq vs.toArray} (.lst (ns.map V.int))) else none) (fun b=>?_) (.inl (.inr ⟨{cls:=.type "list",data:=.seq vs.toArray},gu rfl⟩)) (fun b u z=>?_) (fun b z=>?_) fun _=>hk
  ·by_cases hb:b=a
   ·exact .inr ⟨_,_,gu hb⟩
   ·exact .inl (mf hb)
  ·by_cases hb:b=a
   ·have z':=(gu hb).symm.trans z
    cases z';subst hb;exact⟨ha,by rw [g7];exact hl,vs,_,rv,ha⟩
   ·have z':=(mf hb).symm.trans z
    cases z'
  ·by_cases hb:b=a
   ·exact hb
   ·exact absurd (mf hb) z
theorem qg7{l:PySem.W.OpenLaw}{n k:Nat}{q:Program}{loose:List Str}{XP:(Str->Option Value)->Heap->Prop}{YP:World->Heap->Prop}{d:DefRec}{K:Params->PySem.W.Frag}{CX:World->CXT}{sp:World->Sp}{x:Str}
  (hn:l.most=some n) (hn2:n<=sizeLine) (hdf:d.params.defaults=[]) (hr:Room k callerA)
  (hY:∀(w:World) (h:Heap),YP w h->(K w.params).In h)
  (F:∀(w:World) (mg:Str->Option Value) (fa:Addr) (h:Heap),(K w.params).In h->h.Ns mainGlobals mg->mg d.name=some (.ref fa) ->
   ∃fd:FuncData,(∀(s:Shared) (u:Value),BindsTo s fd ⟨[u],[]⟩ [(x,u)]) /\
    ∀base:Heap,(K w.params).In base->base.Ns mainGlobals mg->FnOk l.prog w (K w.params) mg base (CX w) k fa fd [x] (sp w))
  (hsp:∀(w:World) (H:Hp) (a:Addr) (ns:List Int),ns.length<=n->qdw H->SqL (K w.params) H a (ns.map V.int)->sp w [.ref a] H (fun v _=>v=.bl true) fun _ _ _=>False)
  (hCX:∀(w:World) (H:Hp) (s:Shared) (e:Value) (s':Shared),CX w [] H s (fun _ _ _=>False) e s'->False) :
  PySem.W.WalkO q loose XP YP l.row.toRowW d [] (fun f vs=>PySem.call f vs):=by
 refine Att.attach_call hn hdf fun w s₀ s₁ mg mb fa o pm cd doc a vs ns G Y ho hd hcd hmg hobj hints hlen hg=>?_;have KX:=hY w _ Y;obtain⟨fd,hb,hF⟩:=F w mg fa _ KX G.T.g hmg;exact qdx KX G.T.g G.T.b G.T.builtins G.T.nolimit hg hobj hints (ma hlen hn2) hr hF hb (fun H hO hS=>hsp w H a ns hlen hO hS) fun H e s'=>hCX w H s₁ e s'
def q13(s:Stmt): Arguments:=match s with
 | .FunctionDef _ a _ _ _ _ _ _ _ _=>a
 | _=>{posonlyargs:=[],args:=[],vararg:=none,kwonlyargs:=[],kw_defaults:=[],kwarg:=none,defaults:=[]}
def z0(s:Stmt): List Stmt:=match s with
 | .FunctionDef _ _ b _ _ _ _ _ _ _=>b
 | _=>[]
def qe(s:Stmt): Scope:=match s with
 | .FunctionDef _ _ _ _ _ _ sc _ _ _=>sc
 | _=>{kind:=.function,names:=[],isGenerator:=false,isCoroutine:=false}
abbrev CX0:CXT:=fun _ _ _ _ _ _=>False
abbrev E0:XK:=fun _ _ _=>False
theorem qk9{X:Cx}: q7b CX0 X E0:=fun _ _ _ _ _ _ _ h=>h.elim
structure Fun(K:PySem.W.Frag)(x qual:Str)(st:Stmt)(f:Addr)(fd:FuncData): Prop where
 ex:∃(oc:Value) (od:Option Addr) (kV doc pm:Value) (an:Option Addr) (cdv ct:Value) (osl:Array (Option Value)),
  fd=PySem.W.fnOf x qual (q13 st) (z0 st) (qe st) .none kV doc pm an cdv ct/\K.lookup f=some ⟨oc,od,.func fd,osl⟩/\PySem.W.codeIn K cdv qual=true
 kp:PySem.W.keepIn K (.ref f)=true
section
variable{P:Program}{w:World}{K:PySem.W.Frag}{mg:Str->Option Value}{base:Heap}
end
section
variable{X:Cx}
theorem pv(i:Nat){x:Str}{pos:Pos}(hN:X.N[i]? = some x:=by rfl)(hv:Vis X.env.scope x:=by first|exact Or.inl rfl|exact Or.inr (Or.inl rfl)|exact Or.inr (Or.inr rfl))(hd:(x==("__debug__" : Str))=false:=by decide)
  (hcd:(x==("__classdict__" : Str))=false:=by decide):PE X (.Name x pos) (q3q i):=qhk hN hv hd hcd
end
theorem ql3{A B:Prop}(h:B): if false=true then A else B:=by
 rw [mf gx];exact h
theorem ql4{A B:Prop}(h:A): if true=true then A else B:=by
 rw [gu rfl];exact h
def Same(H H':Hp): Prop:=∀b o,H b=some o->H' b=some o
theorem Same.refl(H:Hp): Same H H:=fun _ _ h=>h
theorem Same.trans{H H1 H2:Hp}(a:Same H H1)(b:Same H1 H2): Same H H2:=fun c o h=>b c o (a c o h)
theorem Same.free{H H':Hp}(e:Same H H'){l:Addr}(h:H' l=Option.none): H l=Option.none:=by
 cases q:H l with
 | none=>rfl
 | some o=>
  rw [e l o q] at h;cases h
theorem Same.seq{K:PySem.W.Frag}{H H':Hp}{a:Addr}{xs:List V}(e:Same H H')(h:SqL K H a xs): SqL K H' a xs:=by
 rcases h with(h|⟨o,h⟩)|h
 ·exact .inl (.inl (e _ _ h))
 ·exact .inl (.inr ⟨o,e _ _ h⟩)
 ·exact .inr h
theorem q05(env:Env): ∀(names:List (Str×NameKind)) (acc:List (Str×Addr)),
  (∀y∈names,y.2=.free->∃c,env.cells.lookup y.1=some c)->(∀x c,acc.lookup x=some c->env.cells.lookup x=some c) ->
  ∃ cl,(forIn names acc (fun(x:Str×NameKind) (r:List (Str×Addr))=>(do
    if x.2==NameKind.free then do
     let a <- cellOf env x.1
     pure (ForInStep.yield ((x.1,a) :: r))
    else pure (ForInStep.yield r):Sem (ForInStep (List (Str×Addr))))):Sem (List (Str×Addr)))=pure cl /\
   (∀x c,cl.lookup x=some c->env.cells.lookup x=some c)/\(∀x c,acc.lookup x=some c->∃d,cl.lookup x=some d)/\(∀y∈names,y.2=.free->∃c,cl.lookup y.1=some c)
 | [],acc,_,h2=>⟨acc,rfl,h2,fun x c h=>⟨c,h⟩,fun y hy=>by cases hy⟩
 | (n,k) :: r,acc,h1,h2=>by
  by_cases hk:k=NameKind.free
  ·subst hk
   obtain⟨c,hc⟩:=h1 (n,.free) gi rfl;have h2':∀x d,((n,c) :: acc).lookup x=some d->env.cells.lookup x=some d:=fun x d e=>by
    rw [ml] at e
    split at e
    ·rename_i q
     have q':x=n:=by simpa using q
     subst q';cases e;exact hc
    ·exact h2 x d e
   obtain⟨cl,e,a1,a2,a3⟩:=q05 env r ((n,c) :: acc) (fun y hy=>h1 y (gr _ hy)) h2';refine⟨cl,?_,a1,fun x d e2=>?_,fun y hy hf=>?_⟩
   ·rw [List.forIn_cons]
    simp only [beq_self_eq_true,pd];have hco:cellOf env n=pure c:=by unfold cellOf;rw [hc]
    rw [hco];exact e
   ·by_cases q:x=n
    ·subst q
     exact a2 x c (by rw [ml];simp)
    ·exact a2 x d (by rw [ml,show(x==n)=false by simpa using q];exact e2)
   ·rcases me.mp hy with rfl|hy
    ·exact a2 n c (by rw [ml];simp)
    ·exact a3 y hy hf
  ·obtain⟨cl,e,a1,a2,a3⟩:=q05 env r acc (fun y hy=>h1 y (gr _ hy)) h2
   refine⟨cl,?_,a1,a2,fun y hy hf=>?_⟩
   ·rw [List.forIn_cons]
    have hb:(k==NameKind.free)=false:=by simpa using hk
    simp only [hb,g0l,g0g];exact e
   ·rcases me.mp hy with rfl|hy
    ·exact absurd hf hk
    ·exact a3 y hy hf
theorem q4c{scope:Scope}{env:Env}(h:∀y∈scope.names,y.2=.free->∃c,env.cells.lookup y.1=some c):
  ∃cl,closureFor scope env=pure cl/\(∀x c,cl.lookup x=some c->env.cells.lookup x=some c)/\(∀y∈scope.names,y.2=.free->∃c,cl.lookup y.1=some c):=by
 obtain⟨cl,e,a1,_,a3⟩:=q05 env scope.names [] h (fun x c q=>by cases q);refine⟨cl,?_,a1,a3⟩;unfold closureFor;exact(n3 (fun m=>m >>= fun r=>(pure r:Sem (List (Str×Addr)))) e).trans rfl
abbrev qc7(ifs:List Expr)(env:Env): Sem Bool:=
 forIn ifs true fun c r=>if r=true then do let ok <- isTrue c env (eval c env);pure (ForInStep.yield ok) else pure (ForInStep.yield r)
def q0t(X:Cx)(ifs:List Expr)(t:TT): Prop:=
 ∀(pins:List (Addr×Obj)) (s:Shared) (σ : St) (H:Hp) (Q:Bool->Hp->Prop),Inv X pins σ H s->t σ H Q->wpAny (model X.prog X.w) X.A (qc7 ifs X.env) (TP X pins σ Q) X.xe s
def tTrue:TT:=fun _ H Q=>Q true H
theorem qdy{X:Cx}: q0t X [] tTrue:=fun pins s σ H Q I h=>wpAny_tests_nil ⟨H,I,h⟩
section
variable{prog:Program}{w:World}{A:Around}{R:Result->Shared->Prop}{s:Shared}
theorem q93{elt target iter:Expr}{ifs:List Expr}{scope:Scope}{pos:Pos}{it acc:Value}{env:Env}(I:Nat->Shared->Prop)
  (turn:∀n s,I n s->wpAny (model prog w) A (pyNext it) (fun r s₁=>match r with
   | none=>R (.ok .next) s₁
   | some v=>wpAny (model prog w) A (letOwnedTupleGo target it v) (fun _ s'=>wpAny (model prog w) A (assign target env v) (fun _ s₂=>
     wpAny (model prog w) A (qc7 ifs env) (fun ok s₃=>
      if ok=true then wpAny (model prog w) A (eval elt env) (fun x s₄=>
       wpAny (model prog w) A (call (.builtin "list.append") [acc,x]) (fun _ s₅=>∃m,m<n/\I m s₅) (fun _ _=>False) s₄) (fun _ _=>False) s₃
      else ∃m,m<n/\I m s₃) (fun _ _=>False) s₂) (fun _ _=>False) s') (fun _ _=>False) s₁) (fun _ _=>False) s)
  (n:Nat) (h:I n s) :
  codeAny (model prog w) A (.compLoop (.ListComp elt [⟨target,iter,ifs,0⟩] scope pos) 0 it acc env) R s:=by
 refine codeAny_loop rfl I (fun n s hI=>?_) n h;show wpAny _ A ((compTurn (.ListComp elt [⟨target,iter,ifs,0⟩] scope pos) 0 it acc env).onRaise (fun x=>do noteFrame x env;theTreesLotGoes x)) _ _ s;refine wpAny_noted ?_;rw [compTurn_list];refine g9 (wpAny_standAt (g9 (nk (turn n s hI) (fun r s₁ h₁=>?_) fun _ _ h'=>h'.elim)));cases r with
 | none=>exact gd h₁
 | some v=>
  refine g9 (nk h₁ (fun _ s' h'=>?_) fun _ _ h'=>h'.elim);refine g9 (nk h' (fun _ s₂ h₂=>g9 (nk h₂ (fun ok s₃ h₃=>?_) fun _ _ h'=>h'.elim)) fun _ _ h'=>h'.elim);cases ok with
  | false=>exact gd ⟨rfl,h₃⟩
  | true=>
   exact g9 (g9 (nk h₃ (fun x s₄ h₄=>g9 (nk h₄ (fun _ s₅ h₅=>gd (gd ⟨rfl,h₅⟩)) fun _ _ h'=>h'.elim)) fun _ _ h'=>h'.elim))
end
abbrev zu(X:Cx)(N':List Str)(scope:Scope)(cl:List (Str×Addr))(C:Addr)(s₀:Shared)(H₀:Hp)(fp:List Addr): Cx:=
 {X with N:=N',env:=compEnvC scope cl C X.env,s₀:=s₀,H₀:=H₀,outer:=X.stack,ex:=fp,fn:=fun _=>false,pn:=[],xe:=fun _ _=>False}
structure CapOk(X:Cx)(N':List Str)(scope:Scope)(cap:List (Option Nat)): Prop where
 kind:scope.kind=.function
 cell:∀y∈scope.names,y.2 ≠ .cell
 names:∀y∈scope.names,y.2=.local->scope.names.lookup y.1=some .local
 frees:∀y∈scope.names,y.2=.free->X.env.kindOf y.1=some .cell\/X.env.kindOf y.1=some .free
 len:cap.length=N'.length
 cap:∀(i j:Nat),cap[i]? = some (some j)->∃x,N'[i]? = some x/\X.N[j]? = some x/\scope.names.lookup x=some .free
def q5c(cap:List (Option Nat))(σ : St): St:=cap.map fun o=>o.bind fun j=>(σ[j]?).join
theorem lookup_mem{α β : Type}[BEq α][LawfulBEq α]{l:List (α × β)}{a : α}{b : β}(h:l.lookup a=some b): (a,b)∈l:=by
 induction l with
 | nil=>cases h
 | cons p r ih=>
  obtain⟨x,y⟩:=p;rw [ml] at h
  split at h
  ·rename_i q
   have q':a=x:=by simpa using q
   subst q';cases h;exact gi
  ·exact gr _ (ih h)
theorem q06{env:Env}: ∀ {names:List (Str×NameKind)} {x:Str} {k:NameKind},(names.map fun(n,k)=>if(k==NameKind.free&&env.scope.kind == .function&&env.kindOf n==some .cell) then(n,NameKind.cell) else(n,k)).lookup x=some k ->
  (names.lookup x=some k)\/(k=.cell/\names.lookup x=some .free)
 | [],_,_,h=>by cases h
 | (n,k0) :: r,x,k,h=>by
  have ih:=@q06 env r x k;have h':List.lookup x ((if(k0==NameKind.free&&env.scope.kind == .function&&env.kindOf n==some .cell)=true then(n,NameKind.cell) else(n,k0)) :: _)=some k:=h
  by_cases hc:(k0==NameKind.free&&env.scope.kind == .function&&env.kindOf n==some .cell)=true
  ·rw [gu hc,ml] at h'
   have hf:k0=.free:=by
    simp only [mj,g0x] at hc;exact hc.1.1
   cases q:x==n with
   | true=>rw [q] at h';cases h';exact .inr ⟨rfl,by rw [ml,q,hf]⟩
   | false=>rw [q] at h';rw [ml,q];exact ih h'
  ·rw [mf hc,ml] at h'
   cases q:x==n with
   | true=>rw [q] at h';rw [ml,q];exact .inl h'
   | false=>rw [q] at h';rw [ml,q];exact ih h'
theorem q24{env:Env}: ∀ {names:List (Str×NameKind)} {x:Str},names.lookup x=some .free ->
  (names.map fun(n,k)=>if(k==NameKind.free&&env.scope.kind == .function&&env.kindOf n==some .cell) then(n,NameKind.cell) else(n,k)).lookup x=some .cell \/
  (names.map fun(n,k)=>if(k==NameKind.free&&env.scope.kind == .function&&env.kindOf n==some .cell) then(n,NameKind.cell) else(n,k)).lookup x=some .free
 | [],_,h=>by cases h
 | (n,k0) :: r,x,h=>by
  have ih:=@q24 env r x;show List.lookup x ((if(k0==NameKind.free&&env.scope.kind == .function&&env.kindOf n==some .cell)=true then(n,NameKind.cell) else(n,k0)) :: _)=_\/List.lookup x ((if(k0==NameKind.free&&env.scope.kind == .function&&env.kindOf n==some .cell)=true then(n,NameKind.cell) else(n,k0)) :: _)=_;rw [ml] at h
  by_cases hc:(k0==NameKind.free&&env.scope.kind == .function&&env.kindOf n==some .cell)=true
  ·rw [gu hc,ml]
   cases q:x==n with
   | true=>exact .inl rfl
   | false=>rw [q] at h;exact ih h
  ·rw [mf hc,ml]
   cases q:x==n with
   | true=>rw [q] at h;exact .inr h
   | false=>rw [q] at h;exact ih h
section
variable{X:Cx}{pins:List (Addr×Obj)}{σ : St}{H:Hp}{s:Shared}{N':List Str}{scope:Scope}{cap:List (Option Nat)}{cl:List (Str×Addr)}{fp:List Addr}
theorem qdz(I:Inv X pins σ H s)(co:CapOk X N' scope cap)(h1:∀x c,cl.lookup x=some c->X.env.cells.lookup x=some c)(h2:∀y∈scope.names,y.2=.free->∃c,cl.lookup y.1=some c)
  (hf:∀b∈fp,q03 X pins H b) (ho:∀b∈fp,∃o,s.heap.get? b=some o) {h':Heap} {t':Nat} {m:Str->Option Value} (hn:h'.Ns s.heap.objs.size m) (hk:∀b o,s.heap.get? b=some o->h'.get? b=some o) :
  Inv (zu X N' scope cl s.heap.objs.size s H fp) [] (q5c cap σ) H {s with heap:=h',toks:=t'}:=by
 have flt:∀b∈fp,b<s.heap.objs.size:=fun b hb=>let⟨o,e⟩:=ho b hb;gp e
 refine⟨⟨I.ok.mod,co.kind,I.ok.glob,I.ok.blt,gm _,fun x y c e1 e2=>I.ok.inj x y c (h1 x c e1) (h1 y c e2),fun x hx=>?_,fun x c z _=>(nomatch z),I.ok.hd,I.ok.frames,.inl rfl,fun b hb=>?_,I.bs,ma I.ok.bsz I.sz,fun b o e hb=>?_,fun b hb z=>?_,I.stack,I.stkFree⟩,
  rfl,I.bare,Un.kept hk,⟨m,hn,fun i x v e1 e2 e3=>?_⟩,fun x c e=>?_,I.hok.fresh (gm _),fun x c e=>I.freeC x c (h1 x c e),fun p hp=>(nomatch hp),I.hok.kept hk,?_⟩
 ·have hx':(relabel scope X.env).names.lookup x=some .cell\/(relabel scope X.env).names.lookup x=some .free:=hx
  have hfree:scope.names.lookup x=some .free:=by
   rcases hx' with q|q
   ·rcases q06 q with z|⟨_,z⟩
    ·exact absurd rfl (co.cell _ (lookup_mem z))
    ·exact z
   ·rcases q06 q with z|⟨z,_⟩
    ·exact z
    ·cases z
  exact h2 (x,.free) (lookup_mem hfree) rfl
 ·obtain⟨f0,f1,f2,f3,f4,f5⟩:=hf b hb
  exact⟨mh (flt b hb),fun x c e=>f4 x c (h1 x c e)⟩
 ·obtain⟨f0,f1,f2,f3,f4,f5⟩:=hf b hb
  rcases f3 with z|z
  ·exact I.ok.noex b o e z
  ·exact absurd (gw (gp e) (ma I.ok.bsz z)) (pf _)
 ·obtain⟨f0,f1,f2,f3,f4,f5⟩:=hf b hb
  rcases me.mp (I.stkSub b z) with q|q
  ·exact f1 q
  ·exact f2 q
 ·-- a captured name
  have e2':(cap.map fun o=>o.bind fun j=>(σ[j]?).join)[i]? = some (some v):=e2;rw [gv] at e2';cases q:cap[i]? with
  | none=>rw [q] at e2';cases e2'
  | some o=>
   rw [q] at e2';cases o with
   | none=>cases e2'
   | some j=>
    obtain⟨y,a1,a2,a3⟩:=co.cap i j q;have e1':N'[i]? = some x:=e1;rw [a1] at e1';obtain rfl:y=x:=mi e1';have ej:(σ[j]?).join=some v:=by
     have:=e2';simp only [m6,g6,g0p] at this;exact this
    have ej' : σ[j]? = some (some v):=by
     cases z : σ[j]? with
     | none=>rw [z] at ej;cases ej
     | some u=>rw [z] at ej;simp only [uv] at ej;rw [ej]
    have kd:=co.frees (y,.free) (lookup_mem a3) rfl;obtain⟨m0,hn0,hl0⟩:=I.loc;have vis:Vis X.env.scope y:=by
     rcases kd with k|k
     ·exact .inr (.inl k)
     ·exact .inr (.inr k)
    obtain⟨u,ru,lk⟩:=hl0 j y v a2 ej' vis;refine⟨u,ru,.inr ⟨q24 a3,?_⟩⟩;obtain⟨c,hc⟩:=h2 (y,.free) (lookup_mem a3) rfl;rcases lk with⟨k,_⟩|⟨_,c',hc',z⟩
    ·rcases kd with k'|k'
     ·rw [k] at k';cases k'
     ·rw [k] at k';cases k'
    ·have:=h1 _ _ hc
     rw [hc'] at this;obtain rfl:c'=c:=mi this;obtain⟨o,eo,ed⟩:=z;exact⟨c',hc,o,hk _ _ eo,ed⟩
 ·obtain⟨v,o,eo,ed⟩:=I.cell x c (h1 x c e)
  exact⟨v,o,hk _ _ eo,ed⟩
 ·show(cap.map _).length=N'.length
  rw [g7];exact co.len
theorem qaq{N':List Str}{C:Addr}{H':Hp}{s':Shared}{σ':St}{h':Heap}(I:Inv X pins σ H s)(hf:∀b∈fp,q03 X pins H b)(J:Inv (zu X N' scope cl C s H fp) [] σ' H' s')(hs:Heap.SameBut C s'.heap h'):
  Inv X pins σ H' {s' with heap:=h'}:=by
 have hC:s.heap.objs.size<=C:=J.ok.above;have kp:∀b o,b≠C->s'.heap.get? b=some o->h'.get? b=some o:=fun b o hb e=>(hs.2 b hb).trans e;have hC0:H' C=none:=J.free;have un:Un (frs X.stack) fp H H' s.heap h':=by
  have u:Un (frs X.stack) fp H H' s.heap s'.heap:=J.base;have neC:∀b o,s.heap.get? b=some o->b≠C:=fun b o e=>mh (gw (gp e) hC);exact⟨fun b o e n h1 h2=>kp b o (neC b o e) (u.keep b o e n h1 h2),fun b o e n h1 h2=>let⟨sl,q⟩:=u.slot b o e n h1 h2; ⟨sl,kp b _ (neC b o e) q⟩,u.free,fun b o e h=>let⟨o',q⟩:=u.there b o e h; ⟨o',kp b o' (neC b o e) q⟩,u.tups,u.frzs,u.tbls⟩
 have hok:HOk X.prog X.w H' h':=fun b u e=>by
  refine(J.hok b u e).stay (fun c v hc q=>kp c v ?_ q) (fun _ q=>q) fun _ _ q=>q;rcases hc with z|z
  ·rw [z];intro z2;rw [z2,hC0] at e;cases e
  ·intro z2;rw [z2,hC0] at z;cases z
 exact I.call' (s':={s' with heap:=h'}) (ch:=fp) J.os un hok J.bare fun b hb=>by
  obtain⟨f0,f1,f2,f3,f4,f5⟩:=hf b hb;exact⟨f3,f1,f4,f5⟩
end
def qic(J:It)(cap:List (Option Nat))(g:TG)(tc:TT)(te:TE)(σ : St)(H1:Hp)(p:Addr)(K:Hp->Prop): Prop:=
 ∃ W:Nat->Nat->St->Hp->Prop,(∃m,W 0 m (q5c cap σ) (upd H1 p (.lst [])))/\∀i m σ' H',W i m σ' H' ->
  (J.stop i H'/\K H')\/(J.go i H'/\∀x H'',J.yld i H' x H''->g x σ' H'' fun σ2 H2=>tc σ2 H2 fun b H3=>
   if b=true then te σ2 H3 fun y H4=>∃xs,H4 p=some (.lst xs)/\xs.length<sizeLine/\∃m',m'<m/\W (i+1) m' σ2 (upd H4 p (.lst (xs++[y])))
   else ∃m',m'<m/\W (i+1) m' σ2 H3)
def qar(wi:TI)(cap:List (Option Nat))(g:TG)(tc:TT)(te:TE): TE:=fun σ H Q=>wi σ H fun J H1=>∀p,H1 p=none->qic J cap g tc te σ H1 p (Q (.ref p))
section
variable{X:Cx}{N':List Str}{scope:Scope}{cap:List (Option Nat)}{tg iter elt:Expr}{ifs:List Expr}{wi:TI}{g:TG}{tc:TT}{te:TE}{pos:Pos}
theorem q65{cl:List (Str×Addr)}{pins:List (Addr×Obj)}{s:Shared}{σ : St}{H:Hp}{it:Addr}{fp:List Addr}{tn:Nat->Heap->Prop}{J:It}{E:Value->Shared->Prop}{K:Addr->Hp->Prop}
  {RR:Value->Addr->Result->Shared->Prop} (hc:X.calm=true) (co:CapOk X N' scope cap)
  (h1:∀x c,cl.lookup x=some c->X.env.cells.lookup x=some c) (h2:∀y∈scope.names,y.2=.free->∃c,cl.lookup y.1=some c)
  (hg:∀cl C s₀ H₀ fp,PG (zu X N' scope cl C s₀ H₀ fp) tg g) (hcs:∀cl C s₀ H₀ fp,q0t (zu X N' scope cl C s₀ H₀ fp) ifs tc) (he:∀cl C s₀ H₀ fp,PE (zu X N' scope cl C s₀ H₀ fp) elt te)
  (I:Inv X pins σ H s) (T:Turn X.prog X.w X.K tg J fp it tn) (st:tn 0 s.heap) (hf:∀b∈fp,q03 X pins H b) (h:∀p,H p=none->qic J cap g tc te σ H p (K p))
  (hRR:∀(D C:Addr) (s':Shared) (H':Hp),s.heap.objs.size<=C->(∃m,s'.heap.Ns C m)->(∀h',Heap.SameBut C s'.heap h'->Inv X pins σ H' {s' with heap:=h'})->H' C=none->K D H'->RR (.ref D) C (.ok .next) s') :
  wpAny (model X.prog X.w) X.A (newList []) (fun acc s₃=>wpAny (model X.prog X.w) X.A (newFunctionEnv scope X.env.globals cl [] X.env.qual none .none (some X.env)) (fun cenv s₄=>
   codeAny (model X.prog X.w) X.A (.compStart (.ListComp elt [⟨tg,iter,ifs,0⟩] scope pos) 0 (.ref it) acc {cenv with scope:=relabel scope X.env}) (RR acc cenv.locals) s₄) E s₃) E s:=by
 refine nc (wpAny_newFunctionEnv co.cell (by intro y hy;simp at hy) (fun hh hns hsb=>?_) co.kind);have hD:H s.heap.objs.size=none:=I.fresh;have I3:Inv X pins σ (upd H s.heap.objs.size (.lst [])) {s with heap:=s.heap.push {cls:=.type "list",dict:=none,data:=.seq ([]:List Value).toArray} }:=I.lnew (ys:=[]) (its:=[]) (t':=s.toks) .nil (p0 _);obtain⟨W,⟨m0,w0⟩,turn⟩:=h s.heap.objs.size hD;have fobj:∀b∈fp,∃o,s.heap.get? b=some o:=fun b hb=>let⟨o,e,_⟩:=T.obj 0 _ st b hb; ⟨o,e⟩
 generalize e3:({s with heap:=s.heap.push {cls:=.type "list",dict:=none,data:=.seq ([]:List Value).toArray} }:Shared)=s3 at I3;have es3:s3.heap=s.heap.push {cls:=.type "list",dict:=none,data:=.seq ([]:List Value).toArray}:=by rw [<- e3]
 have eC:(s.heap.push {cls:=.type "list",dict:=none,data:=.seq ([]:List Value).toArray}).objs.size=s3.heap.objs.size:=by rw [es3]
 have hf3:∀b∈fp,q03 X pins (upd H s.heap.objs.size (.lst [])) b:=fun b hb=>by
  obtain⟨f0,f1⟩:=hf b hb;obtain⟨o,e⟩:=fobj b hb;exact⟨by rw [ql (mh (gp e))];exact f0,f1⟩
 have kp:∀b o,s3.heap.get? b=some o->hh.get? b=some o:=fun b o e=>by
  refine hsb.extBut b o ?_ (gb _ (by rw [<- es3];exact e));show b≠(s.heap.push {cls:=.type "list",dict:=none,data:=.seq ([]:List Value).toArray}).objs.size;rw [eC];exact mh (gp e)
 have hle:s.heap.objs.size<=s3.heap.objs.size:=by rw [es3,g0h];exact g0j _
 have s3e:∀t:Nat,({s with heap:=hh,toks:=t}:Shared) = {s3 with heap:=hh,toks:=t}:=fun t=>by rw [<- e3]
 have I4:Inv (zu X N' scope cl s3.heap.objs.size s3 (upd H s.heap.objs.size (.lst [])) fp) [] (q5c cap σ) (upd H s.heap.objs.size (.lst [])) {s3 with heap:=hh,toks:=s.toks+([]:List (Str×Value)).length}:=
  qdz I3 co h1 h2 hf3 (fun b hb=>let⟨o,e⟩:=fobj b hb; ⟨o,by rw [es3];exact gb _ e⟩) (by rw [<- eC];exact hns) kp
 have st4:tn 0 hh:=T.keep 0 _ _ st fun b hb o e=>kp b o (by rw [es3];exact gb _ e);have etk:s3.toks+([]:List (Str×Value)).length=s.toks+([]:List (Str×Value)).length:=by rw [<- e3]
 show codeAny (model X.prog X.w) X.A (.compStart (.ListComp elt [⟨tg,iter,ifs,0⟩] scope pos) 0 (.ref it) (.ref s.heap.objs.size) (compEnvC scope cl s3.heap.objs.size X.env)) (RR (.ref s.heap.objs.size) s3.heap.objs.size)
  {s3 with heap:=hh,toks:=s3.toks+([]:List (Str×Value)).length}
 rw [etk];generalize eX:zu X N' scope cl s3.heap.objs.size s3 (upd H s.heap.objs.size (.lst [])) fp=X' at I4;have hg':PG X' tg g:=by rw [<- eX];exact hg _ _ _ _ _
 have hcs':q0t X' ifs tc:=by rw [<- eX];exact hcs _ _ _ _ _
 have he':PE X' elt te:=by rw [<- eX];exact he _ _ _ _ _
 have eenv:X'.env=compEnvC scope cl s3.heap.objs.size X.env:=by rw [<- eX]
 have exe:X'.xe=fun _ _=>False:=by rw [<- eX]
 have eex:X'.ex=fp:=by rw [<- eX]
 have eprog:X'.prog=X.prog:=by rw [<- eX]
 have ew:X'.w=X.w:=by rw [<- eX]
 have eK:X'.K=X.K:=by rw [<- eX]
 have eA:X'.A=X.A:=by rw [<- eX]
 have ecalm:X'.calm=true:=by rw [<- eX];exact hc
 have epn:X'.pn=[]:=by rw [<- eX]
 have eloc:X'.env.locals=s3.heap.objs.size:=by rw [eenv];rfl
 have ok':=I4.ok;have stat:∀ {H':Hp},(∀b∈fp,H' b=none)->∀b∈fp,q03 X' [] H' b:=fun hn b hb=>by
  have hbx:b∈X'.ex:=by rw [eex];exact hb
  exact⟨hn b hb,(ok'.exf b hbx).1,ok'.exfs b hbx,.inl hbx,(ok'.exf b hbx).2,fun p hp=>by rw [epn] at hp;cases hp⟩
 have back:∀ {σ':St} {H':Hp} {s':Shared},Inv X' [] σ' H' s'->K s.heap.objs.size H'->RR (.ref s.heap.objs.size) s3.heap.objs.size (.ok .next) s':=fun {σ' H' s'} J' k=>by
  refine hRR _ _ _ H' hle ?_ (fun h' hs'=>?_) ?_ k
  ·obtain⟨m,hm,_⟩:=J'.loc
   exact⟨m,by rw [<- eloc];exact hm⟩
  ·rw [<- eX] at J'
   exact qaq I3 hf3 J' hs'
  ·rw [<- eloc];exact J'.free
 have loop:codeAny (model X.prog X.w) X.A (.compLoop (.ListComp elt [⟨tg,iter,ifs,0⟩] scope pos) 0 (.ref it) (.ref s.heap.objs.size) (compEnvC scope cl s3.heap.objs.size X.env)) (RR (.ref s.heap.objs.size) s3.heap.objs.size)
   {s3 with heap:=hh,toks:=s.toks+([]:List (Str×Value)).length}:=by
  refine q93 (fun n s'=>∃i σ' H',Inv X' [] σ' H' s'/\tn i s'.heap/\(∀b∈fp,H' b=none)/\W i n σ' H') ?_ m0 ⟨0,_,_,I4,st4,fun b hb=>(hf3 b hb).1,w0⟩
  rintro n s5 ⟨i, σ5,H5,I5,st5,fr5,w5⟩
  rw [<- eenv];rcases turn i n σ5 H5 w5 with⟨stop,qn⟩|⟨go,step⟩
  ·have:=T.done X' eprog ew eK ecalm i [] s5 σ5 H5 (fun _ _=>False) I5 (stat fr5) st5 stop
   rw [eA] at this;refine thn this fun r s6 ⟨hr,I6⟩=>?_;subst hr;exact back I6 qn
  ·have:=T.item X' eprog ew eK ecalm i [] s5 σ5 H5 (fun _ _=>False) I5 (stat fr5) st5 go
   rw [eA] at this;refine thn this fun r s6 ⟨u,hr,h6⟩=>?_;subst hr;refine thn h6 fun _ s7 ⟨x,H7,I7,r7,y7,st7,fr7⟩=>?_;have I7':=I7.pinned (stat fr7) (T.obj _ _ st7);have hg2:=hg' _ s7 σ5 H7 x u _ I7' r7 (step x H7 y7);rw [exe,eprog,ew,eA] at hg2;refine thn hg2 fun _ s8 ⟨σ8,H8,I8,q8⟩=>?_;have hc2:=hcs' _ s8 σ8 H8 _ I8 q8;rw [exe,eprog,ew,eA] at hc2;refine thn hc2 fun ok s9 ⟨H9,I9,q9⟩=>?_;have again:∀ {H':Hp} {s':Shared} {m':Nat},Inv X' ([]++q12 fp s7.heap) σ8 H' s'->m'<n->W (i+1) m' σ8 H'->∃m,m<n/\∃i σ' H',Inv X' [] σ' H' s'/\tn i s'.heap/\(∀b∈fp,H' b=none)/\W i m σ' H':=fun {H' s' m'} J' hm w'=>by
    refine⟨m',hm,i+1, σ8,H',J'.unpinned,T.keep _ _ _ st7 fun b hb o e=>(J'.pin (b,o) (md _ (md _ (wc hb e)))).1,fun b hb=>?_,w'⟩;obtain⟨o,e,d⟩:=T.obj _ _ st7 b hb;exact(J'.pin (b,o) (md _ (md _ (wc hb e)))).2.1
   cases ok with
   | false=>
    rw [mf gx] at q9 ⊢;obtain⟨m',hm,w'⟩:=q9;exact again I9 hm w'
   | true=>
    rw [gu rfl] at q9 ⊢;have he2:=he' _ s9 σ8 H9 _ I9 q9;rw [exe,eprog,ew,eA] at he2;refine thn he2 fun y s10 ⟨yv,H10,I10,r10,xs,hp,hz,m',hm,w'⟩=>?_;have ha2:=q64 (X:=X') ([]++q12 fp s7.heap) s10 σ8 H10 (.ref s.heap.objs.size) [yv] (.ref s.heap.objs.size) [y] (fun _ H'=>H'=upd H10 s.heap.objs.size (.lst (xs++[yv]))) I10 rfl (.cons r10 .nil) ⟨_,xs,yv,rfl,rfl,hp,hz,rfl⟩;rw [exe,eprog,ew,eA] at ha2;refine thn ha2 fun _ s11 ⟨_,H11,I11,_,e11⟩=>?_;subst e11;exact again I11 hm w'
 exact codeAny_compStart_list loop (T.self _ 0 _ _ _ st4 loop)
theorem qg8(hc:X.calm=true)(co:CapOk X N' scope cap)(hi:PI X tg iter wi)
  (hg:∀cl C s₀ H₀ fp,PG (zu X N' scope cl C s₀ H₀ fp) tg g) (hcs:∀cl C s₀ H₀ fp,q0t (zu X N' scope cl C s₀ H₀ fp) ifs tc) (he:∀cl C s₀ H₀ fp,PE (zu X N' scope cl C s₀ H₀ fp) elt te)
  (hs:∀x,foldedSetIterable iter X.env x=pure x:=by intro _;rfl):PE X (.ListComp elt [⟨tg,iter,ifs,0⟩] scope pos) (qar wi cap g tc te):=by
 intro pins s σ H Q I h;obtain⟨cl,ecl,c1,c2⟩:=q4c (scope:=scope) (env:=X.env) fun y hy hf=>I.ok.has y.1 (co.frees y hy hf);rw [eval_ListComp];refine wpAny_comprehension_free (use:=none) rfl hs ecl co.kind co.names (nk (hi pins s σ H _ I h) (fun v s1 h1=>nk h1 (fun itv s2 h2=>?_) fun _ _ e=>e) fun _ _ e=>e);obtain⟨it,fp,tn,J,H2,rfl,I2,T,st2,f2,h2⟩:=h2;refine q65 (K:=fun p=>Q (.ref p)) (RR:=fun acc C=>compPost (model X.prog X.w) X.A X.xe none (EP X pins σ Q) acc C) hc co c1 c2 hg hcs he I2 T st2 f2 h2 ?_;intro D C s' H' hle ⟨m,hm⟩ hI hC q;exact⟨m,hm,fun h' hs'=>⟨.ref D,H',hI h' hs',rfl,q⟩⟩
end
section
variable{X:Cx}{N':List Str}{scope:Scope}{cap:List (Option Nat)}{tg iter elt:Expr}{ifs:List Expr}{wi:TI}{g:TG}{tc:TT}{te:TE}{pos:Pos}
theorem qas{i:Nat}{x:Str}{px pe:Pos}(hc:X.calm=true)(hN:X.N.Nodup)(hx0:X.N[i]? = some x)(hx:X.env.scope.names.lookup x=some .local)(co:CapOk X N' scope cap)(hi:PI X tg iter wi)
  (hg:∀cl C s₀ H₀ fp,PG (zu X N' scope cl C s₀ H₀ fp) tg g) (hcs:∀cl C s₀ H₀ fp,q0t (zu X N' scope cl C s₀ H₀ fp) ifs tc) (he:∀cl C s₀ H₀ fp,PE (zu X N' scope cl C s₀ H₀ fp) elt te)
  (hsw:swapsWith (.ListComp elt [⟨tg,iter,ifs,0⟩] scope pe) (some (.Name x px)) pos.line X.env=pure true:=by rfl)
  (hs:∀x,foldedSetIterable iter X.env x=pure x:=by intro _;rfl):PS X (.Assign [.Name x px] (.ListComp elt [⟨tg,iter,ifs,0⟩] scope pe) pos) (qai (qar wi cap g tc te) (ka i)):=by
 intro pins s σ H D I h;obtain⟨cl,ecl,c1,c2⟩:=q4c (scope:=scope) (env:=X.env) fun y hy hf=>I.ok.has y.1 (co.frees y hy hf);rw [exec_Assign_Name_used _ _ _ _ hsw];refine g9 (wpAny_standAt (g9 ?_));show wpAny _ X.A (do let _ <- comprehension (.ListComp elt [⟨tg,iter,ifs,0⟩] scope pe) scope X.env _ (newList []) false (eval iter X.env) (some (assign (.Name x px) X.env))) _ _ s;refine g9 (nk (wpAny_comprehension_free (use:=some (assign (.Name x px) X.env)) (Q:=fun _ s'=>SP X pins D .next s') rfl hs ecl co.kind co.names
  (nk (hi pins s σ H _ I h) (fun v s1 h1=>nk h1 (fun itv s2 h2=>?_) fun _ _ e=>e) fun _ _ e=>e)) (fun _ s' hq=>gd (gd hq)) fun _ _ e=>e)
 obtain⟨it,fp,tn,J,H2,rfl,I2,T,st2,f2,h2⟩:=h2;refine q65 (K:=fun p H'=>ka i (.ref p) σ H' D.nx) (RR:=fun acc C=>compPost (model X.prog X.w) X.A X.xe (some (assign (.Name x px) X.env)) (fun _ s'=>SP X pins D .next s') acc C) hc co c1 c2 hg hcs he I2 T st2 f2 h2 ?_;intro Da C s' H' hle ⟨m,hm⟩ hI hC q;have I':Inv X pins σ H' s':=hI s'.heap (Heap.SameBut.refl ..);obtain⟨o,es,ep,ho,hd,hk⟩:=id hm;have hCL:C≠X.env.locals:=uy (gw I2.lt hle);have hCf:C∉X.fs:=I2.nofs hle;have I'':Inv X (pins++[(C,o)]) σ H' s':=I'.pins_of fun p hp=>(nh.mp hp).elim (fun z=>I'.pin p (md _ z)) fun z=>by
  obtain rfl:p=(C,o):=by simpa using z
  exact⟨ho,hC,hCL,hCf,fun v z=>by rw [hd] at z;cases z⟩
 show wpAny (model X.prog X.w) X.A (assign (.Name x px) X.env (.ref Da)) _ _ _;refine wpAny_assign_Name (q3p I'' hN hx0 (.inl hx) (v:=.ref Da) rfl (fun s'' J=>?_) (.inr hx));have hC2:s''.heap.get? C=some o:=(J.pin (C,o) (md _ (md _ gi))).1;refine⟨m,⟨o,es,ep,hC2,hd,hk⟩,fun h' hs'=>?_⟩;have J2:Inv X pins (σ.set i (some (.ref Da))) H' {s'' with heap:=h'}:=J.unpinned.turned (t':=s''.toks) (it:=C) (fun b ob hb e=>(hs'.2 b hb).trans e) hC hCL
  (.inr (ma I2.sz hle)) (fun y c e z=>by
   obtain⟨v,q2⟩:=I2.cell y c e;exact absurd (gw q2.lt (by rw [z];exact hle)) (pf _)) fun p hp z=>by
   exact absurd (gw (gp (I2.pin p hp).1) (by rw [z];exact hle)) (pf _)
 exact⟨_,H',J2,q⟩
end
end L2
namespace DL
open PySem PySem.Spec PyProof.Rows L2
structure ExcC(K:PySem.W.Frag)(D:Addr): Prop where
 ga:PySem.W.findIn K (.ref D) "__getattribute__" = some (some (.builtin "BaseException.__getattribute__"))
 gk:PySem.W.findIn K (.ref D) "__getattr__" = some none
 cc:PySem.W.findIn K (.ref D) "__class__" = some (some (.builtin "object.__class__"))
 cs:PySem.W.specialIn K (.builtin "object.__class__") "__get__" = some (some (.builtin "getset_descriptor.__get__"))
 ct:PySem.W.takesIn K (.builtin "object.__class__")=some true
 cm:PySem.W.mroIn K D (.type "object")=some true
 cb:PySem.W.mroIn K D (.type "BaseException")=some true
section
variable{prog:Program}{w:World}{A:Around}{E:Value->Shared->Prop}{K:PySem.W.Frag}{s:Shared}{x D:Addr}{od:Option Addr}{ox:Obj}
open PySem.W in
theorem q9m(c:ExcC K D): (clsIn K D).isSome=true:=by
 have:=c.cm;unfold mroIn at this;cases q:clsIn K D with
 | none=>rw [q] at this;cases this
 | some cd=>rfl
def XE(a C:Addr)(od:Option Addr)(h:Heap): Prop:=∃o vs,h.get? a=some o/\o.cls=.ref C/\o.dict=od/\o.data=.fields vs
open PySem.W in
theorem q14{M:Model}{a C:Addr}{od:Option Addr}{h:Heap}(e:XE a C od h): Looks M h (typeOf (.ref a)) (.ref C):=by
 obtain⟨o,vs,e1,e2,_,e3⟩:=e;exact e2 ▸ (Looks.ld e1).andThen .now
open PySem.W Builtin.ObjectAttr in
theorem qg9{M:Model}{h:Heap}(c:ExcC K D)(X:K.In h): Looks M h (find (.ref x) (.ref D) "__class__") (.bind (.builtin "getset_descriptor.__get__") (.builtin "object.__class__")):=by
 refine(looks_findIn (M:=M) X c.cc).andThen ((looks_specialIn (M:=M) X c.cs).andThen ?_);exact(show Looks M h (dataDescriptor? (some (.builtin "object.__class__")) (some (.builtin "getset_descriptor.__get__"))) (some (.builtin "getset_descriptor.__get__",.builtin "object.__class__")) from(looks_takesIn (M:=M) X c.ct).andThen .now).andThen (Looks.tag .now)
open PySem.W Builtin Builtin.ObjectAttr Builtin.Getset_descriptor in
theorem qid{tp:Value}{R:Result->Shared->Prop}(c:ExcC K D)(X:K.In s.heap)(I:XE x D od s.heap)(h:R (.ok (.ret (.ref D))) s):
  codeAny (model prog w) A (.call (.builtin "getset_descriptor.__get__") ⟨[.builtin "object.__class__",.ref x,tp],[]⟩) R s:=by
 obtain⟨hh,g,dr,t,os⟩:=s;have L0:=q14 (M:=model prog w) I;have L1:=looks_mroIn (M:=model prog w) X c.cm;refine g05 KF.slot_gs.plain KF.entry_gs (KF.slot_gs.check _ _ _ _ _ _ _ _ KF.type_class (KF.args_gs _ _ _) ?_);unfold Builtin.«getset_descriptor.__get__» descrGet;rw [dga_obj];refine g9 (gd ?_);unfold descrGetter descrCheckInstance descrNameAndClass isInstance;simp only [KF.owner_class]
 repeat lk
 refine⟨Code.quiet_builtin _ (by decide +kernel),ni KF.entry_class ?_⟩;unfold Builtin.«object.__class__» shownTypeOf
 repeat lk
 exact h
open PySem.W in
theorem qe0{tk:Tok}{Q:Fin->Shared->Prop}(c:ExcC K D)(X:K.In s.heap)(I:XE x D od s.heap)(hq:Q (.done (.ret (.ref D))) s):
  wpAny (model prog w) A (Builtin.«object.__getattribute__» ⟨[.ref x,.str "__class__" tk],[]⟩) Q E s:=by
 obtain⟨hh,g,dr,t,os⟩:=s;have L0:=q14 (M:=model prog w) I;have L1:=qg9 (x:=x) (M:=model prog w) c X;unfold Builtin.«object.__getattribute__»;refine g9 (gd (g9 (gd (g9 (L0.at (g9 (L1.at ?_)))))));show wpAny _ _ (Builtin.ObjectAttr.bindTo _ _ _ _) _ _ _;unfold Builtin.ObjectAttr.bindTo;refine g9 (pz (wpAny_call (qid c X I ?_)));exact gd hq
open PySem.W in
theorem qe1{M:Model}{nameV:Value}{Q:Unit->Shared->Prop}(c:ExcC K D)(X:K.In s.heap)(I:XE x D od s.heap)(hq:Q () s): wpAny M A (checkBuiltinCall "BaseException.__getattribute__" ⟨[.ref x,nameV],[]⟩) Q E s:=by
 obtain⟨hh,g,dr,t,os⟩:=s;have L0:=q14 (M:=M) I;have L1:=looks_mroIn (M:=M) X c.cb;have hk:builtinKind "BaseException.__getattribute__" = some .slot:=by decide +kernel
 have hsplit:splitId "BaseException.__getattribute__" = some ("BaseException","__getattribute__"):=by decide +kernel
 have ha:=F.args_bexc_ga (.ref x) nameV;simp only [checkBuiltinCall,hk,hsplit];refine g9 ?_;unfold isInstance;refine g9 (L0.at (L1.at ?_))
 repeat (first|wp_step)
 exact hq
open PySem.W in
theorem qe2{Q:Option Value->Shared->Prop}(c:ExcC K D)(X:K.In s.heap)(I:XE x D od s.heap)(h:Q (some (.ref D)) {s with toks:=s.toks+1}): wpAny (model prog w) A (getAttr? (.ref x) "__class__") Q E s:=by
 obtain⟨hh,g,dr,t,os⟩:=s;have L0:=q14 (M:=model prog w) I;have L1:=looks_findIn (M:=model prog w) X c.ga;have L2:=looks_findIn (M:=model prog w) X c.gk;have f3:=g0m.ga.bind (.ref x);unfold getAttr? getAttrBy? getAttrBy;refine g9 (wpAny_mkText (g9 (wpAny_attempt (pz (g9 (L0.at (g9 (L1.at ?_))))))));show wpAny _ _ (getAttrByItsOwn _ _ _ _ _ _) _ _ _;unfold getAttrByItsOwn hookBefore;rw [gu (show onTheHeap (Value.ref D)=true from rfl)];refine g9 (L2.at ?_);refine g9 (wpAny_attempt (pz ?_));unfold callGetattribute boundAndCalled;rw [mf (by decide)];rw [f3];refine g9 (gd ?_);refine wpAny_call (g05 g0m.ga.plain F.entry_bexc_ga (qe1 c X I (qe0 c X I ?_)));dsimp only;exact handed_on rfl (gd h)
theorem qe3(c:ExcC K D): PySem.W.KitX K (.ref x) (.ref D) (XE x D od) where
 ty:=fun M h _ e=>q14 e
 it:=fun _ _ X _=>by
  obtain⟨cdD,hcD⟩:=u9.mp (q9m c);unfold PySem.W.clsIn at hcD
  split at hcD
  ·rename_i c' d' cd' sl' ho
   intro A' Q' E' s' k q;unfold isType loadHead;exact g9 (wpAny_loadPart (k _ _ (X _ _ ho)) (gd q))
  ·cases hcD
 ne:=fun h tp dd its n sl X htp=>by
  obtain⟨cdD,hcD⟩:=u9.mp (q9m c);refine Bool.eq_false_iff.mpr fun q=>?_;have e:D=tp:=Value.ref.inj (g0x.mp q);subst e;unfold PySem.W.clsIn at hcD
  split at hcD
  ·rename_i c' d' cd' sl' ho
   have z:=(X _ _ ho).symm.trans htp;cases z
  ·cases hcD
 ca:=fun X e k=>qe2 c X e k
end
def qie(K:PySem.W.Frag)(C:Addr): Prop:=ExcC K C/\∀T:String,T∈["int","bool","tuple","list","str","dict"]->PySem.W.kitOne K (.ref C) (.type T)=some false
inductive D where
 | non
 | bl (b:Bool)
 | int (i:Int)
 | str (x:Str)
 | tup (ds:List D)
 | lst (ds:List D)
 | dct (ks:List Key) (vs:List D)
 | dtt (ks:List (List Int)) (vs:List D)
 | obj (x:Str)
 | exc (x:Str) (f:Option (Str×Int))
abbrev Frag:=PySem.W.Frag
abbrev St:=L2.St
def qif(K:Frag)(C:Addr): Prop:=PySem.W.plainGet K C "__class__" = true/\PySem.W.hasDictIn K C=true/\PySem.W.findIn K (.ref C) "__class__" = some (some (.builtin "object.__class__")) /\
 PySem.W.specialIn K (.builtin "object.__class__") "__get__" = some (some (.builtin "getset_descriptor.__get__"))/\PySem.W.takesIn K (.builtin "object.__class__")=some true/\PySem.W.mroIn K C (.type "object")=some true /\
 ∀T:String,T∈["int","bool","tuple","list","str","dict"]->PySem.W.kitOne K (.ref C) (.type T)=some false
def ql5(x:List Int×Addr×Value): DictEntry:=⟨reduceHash (Builtin.Tuple.tupleHashOf (x.1.map hashInt)),.ref x.2.1,x.2.2⟩
def DE(a:Addr)(xs:List (List Int×Addr×Value))(ep:Nat)(h:Heap): Prop:=∃o es,h.get? a=some o/\o.ExactDict/\o.data=.dict es ep/\es.toList=xs.map ql5
def XF(H:Hp): Option Addr->Option (Str×Int)->Prop
 | none,none=>True
 | some dx,some p=>H dx=some (.xd [(p.1,.int p.2)])
 | _,_=>False
theorem XF.mono{H H':Hp}(e:Same H H'): ∀ {od:Option Addr} {f:Option (Str×Int)},XF H od f->XF H' od f
 | none,none,_=>trivial
 | some _,some _,h=>e _ _ h
 | none,some _,h=>h
 | some _,none,h=>h
mutual
/-- v stands for the datum in the heap H -/
def Rep(K:Frag)(H:Hp): D->V->Prop
 | .non,v=>v=.non
 | .bl b,v=>v=.bl b
 | .int i,v=>v=.int i
 | .str x,v=>v=.str x
 | .tup ds,v=>∃a xs,v=.ref a/\SqT K H a xs/\RepL K H ds xs
 | .lst ds,v=>∃a xs,v=.ref a/\SqL K H a xs/\RepL K H ds xs
 | .dct ks vs,v=>∃a xs,v=.ref a/\H a=some (.dK (ks.zip xs))/\ks.length=xs.length/\RepL K H vs xs
 | .dtt ks vs,v=>∃a xs ys ep,v=.ref a/\H a=some (.ext (DE a xs ep))/\xs.map (·.1)=ks/\ks.Nodup/\xs.length<=sizeLine/\(a==sysModules)=false/\(∀x∈xs,SqT K H x.2.1 (x.1.map V.int))/\Vals ys (xs.map fun x=>x.2.2)/\RepL K H vs ys
 | .obj x,v=>∃a dx C,v=.ref a/\H a=some (.ins C dx [])/\PySem.W.nsIn K mainGlobals x=some (some (.ref C))/\qif K C
 | .exc x f,v=>∃a C,v=.ref a/\(∃od,H a=some (.ext (XE a C od))/\XF H od f)/\PySem.W.nsIn K mainGlobals x=some (some (.ref C))/\qie K C
def RepL(K:Frag)(H:Hp): List D->List V->Prop
 | [],xs=>xs=[]
 | d :: ds,xs=>∃x r,xs=x :: r/\Rep K H d x/\RepL K H ds r
end
theorem qr{K:Frag}{H H':Hp}{a:Addr}{xs:List V}(e:Same H H')(h:SqT K H a xs): SqT K H' a xs:=by
 rcases h with(h|⟨o,h⟩)|h
 ·exact .inl (.inl (e _ _ h))
 ·exact .inl (.inr ⟨o,e _ _ h⟩)
 ·exact .inr h
mutual
theorem Rep.mono{K:Frag}{H H':Hp}(e:Same H H'): ∀ {d:D} {v:V},Rep K H d v->Rep K H' d v
 | .non,v,h=>by simpa only [Rep] using h
 | .bl b,v,h=>by simpa only [Rep] using h
 | .int i,v,h=>by simpa only [Rep] using h
 | .str x,v,h=>by simpa only [Rep] using h
 | .tup ds,v,h=>by
  simp only [Rep] at h ⊢;obtain⟨a,xs,e1,e2,e3⟩:=h;exact⟨a,xs,e1,qr e e2,RepL.mono e e3⟩
 | .lst ds,v,h=>by
  simp only [Rep] at h ⊢;obtain⟨a,xs,e1,e2,e3⟩:=h;exact⟨a,xs,e1,e.seq e2,RepL.mono e e3⟩
 | .dct ks vs,v,h=>by
  simp only [Rep] at h ⊢;obtain⟨a,xs,e1,e2,e3,e4⟩:=h;exact⟨a,xs,e1,e _ _ e2,e3,RepL.mono e e4⟩
 | .dtt ks vs,v,h=>by
  simp only [Rep] at h ⊢;obtain⟨a,xs,ys,ep,e1,e2,e3,e4,e5,e6,e7,e8,e9⟩:=h;exact⟨a,xs,ys,ep,e1,e _ _ e2,e3,e4,e5,e6,fun x hx=>qr e (e7 x hx),e8,RepL.mono e e9⟩
 | .obj x,v,h=>by
  simp only [Rep] at h ⊢;obtain⟨a,dx,C,e1,e2,e3⟩:=h;exact⟨a,dx,C,e1,e _ _ e2,e3⟩
 | .exc x f,v,h=>by
  simp only [Rep] at h ⊢;obtain⟨a,C,e1,⟨od,e2,e4⟩,e3⟩:=h;exact⟨a,C,e1,⟨od,e _ _ e2,e4.mono e⟩,e3⟩
theorem RepL.mono{K:Frag}{H H':Hp}(e:Same H H'): ∀ {ds:List D} {xs:List V},RepL K H ds xs->RepL K H' ds xs
 | [],xs,h=>by simpa only [RepL] using h
 | d :: ds,xs,h=>by
  simp only [RepL] at h ⊢;obtain⟨x,r,e1,e2,e3⟩:=h;exact⟨x,r,e1,Rep.mono e e2,RepL.mono e e3⟩
end
section
variable{K:Frag}{H:Hp}
theorem RepL.nil:RepL K H [] []:=by simp only [RepL]
theorem RepL.cons{d:D}{ds:List D}{x:V}{xs:List V}(h:Rep K H d x)(t:RepL K H ds xs): RepL K H (d :: ds) (x :: xs):=by
 simp only [RepL];exact⟨x,xs,rfl,h,t⟩
theorem RepL.nil_inv{xs:List V}(h:RepL K H [] xs): xs=[]:=by simpa only [RepL] using h
theorem RepL.cons_inv{d:D}{ds:List D}{xs:List V}(h:RepL K H (d :: ds) xs): ∃x r,xs=x :: r/\Rep K H d x/\RepL K H ds r:=by simpa only [RepL] using h
theorem RepL.length:∀ {ds:List D} {xs:List V},RepL K H ds xs->ds.length=xs.length
 | [],xs,h=>by rw [h.nil_inv];rfl
 | d :: ds,xs,h=>by
  obtain⟨x,r,rfl,_,t⟩:=h.cons_inv;simp [RepL.length t]
theorem RepL.append:∀ {ds es:List D} {xs ys:List V},RepL K H ds xs->RepL K H es ys->RepL K H (ds++es) (xs++ys)
 | [],es,xs,ys,h,t=>by rw [h.nil_inv];exact t
 | d :: ds,es,xs,ys,h,t=>by
  obtain⟨x,r,rfl,h1,h2⟩:=h.cons_inv;exact .cons h1 (RepL.append h2 t)
theorem RepL.get:∀ {ds:List D} {xs:List V} {i:Nat} {d:D},RepL K H ds xs->ds[i]? = some d->∃x,xs[i]? = some x/\Rep K H d x
 | [],xs,i,d,h,e=>by simp at e
 | d :: ds,xs,0,d',h,e=>by
  obtain⟨x,r,rfl,h1,h2⟩:=h.cons_inv;simp at e;subst e;exact⟨x,rfl,h1⟩
 | d :: ds,xs,i+1,d',h,e=>by
  obtain⟨x,r,rfl,h1,h2⟩:=h.cons_inv;obtain⟨y,e1,e2⟩:=RepL.get (i:=i) h2 (by simpa using e);exact⟨y,by simpa using e1,e2⟩
theorem RepL.take:∀ {ds:List D} {xs:List V} (n:Nat),RepL K H ds xs->RepL K H (ds.take n) (xs.take n)
 | _,_,0,_=>by simp only [List.take_zero];exact .nil
 | [],xs,n+1,h=>by rw [h.nil_inv];exact .nil
 | d :: ds,xs,n+1,h=>by
  obtain⟨x,r,rfl,h1,h2⟩:=h.cons_inv;exact .cons h1 (RepL.take n h2)
theorem RepL.drop:∀ {ds:List D} {xs:List V} (n:Nat),RepL K H ds xs->RepL K H (ds.drop n) (xs.drop n)
 | ds,xs,0,h=>by simpa only [uc] using h
 | [],xs,n+1,h=>by rw [h.nil_inv];exact .nil
 | d :: ds,xs,n+1,h=>by
  obtain⟨x,r,rfl,h1,h2⟩:=h.cons_inv;exact RepL.drop n h2
theorem RepL.ints:∀ {ns:List Int} {xs:List V},RepL K H (ns.map D.int) xs↔xs=ns.map V.int
 | [],xs=>by simp only [g03,RepL]
 | n :: ns,xs=>by
  simp only [gy,RepL]
  constructor
  ·rintro⟨x,r,rfl,h1,h2⟩
   simp only [Rep] at h1;rw [h1,RepL.ints.mp h2]
  ·rintro rfl
   exact⟨_,_,rfl,by simp only [Rep],RepL.ints.mpr rfl⟩
theorem rep_int{i:Int}{v:V}: Rep K H (.int i) v↔v=.int i:=by simp only [Rep]
theorem rep_bl{i:Bool}{v:V}: Rep K H (.bl i) v↔v=.bl i:=by simp only [Rep]
theorem rep_str{i:Str}{v:V}: Rep K H (.str i) v↔v=.str i:=by simp only [Rep]
theorem rep_non{v:V}: Rep K H .non v↔v=.non:=by simp only [Rep]
theorem rep_tup{ds:List D}{v:V}: Rep K H (.tup ds) v↔∃a xs,v=.ref a/\SqT K H a xs/\RepL K H ds xs:=by simp only [Rep]
theorem rep_lst{ds:List D}{v:V}: Rep K H (.lst ds) v↔∃a xs,v=.ref a/\SqL K H a xs/\RepL K H ds xs:=by simp only [Rep]
theorem rep_dct{ks:List Key}{vs:List D}{v:V}: Rep K H (.dct ks vs) v↔∃a xs,v=.ref a/\H a=some (.dK (ks.zip xs))/\ks.length=xs.length/\RepL K H vs xs:=by simp only [Rep]
theorem rep_dtt{ks:List (List Int)}{vs:List D}{v:V}: Rep K H (.dtt ks vs) v↔∃a xs ys ep,v=.ref a/\H a=some (.ext (DE a xs ep))/\xs.map (·.1)=ks/\ks.Nodup/\xs.length<=sizeLine/\(a==sysModules)=false/\(∀x∈xs,SqT K H x.2.1 (x.1.map V.int))/\Vals ys (xs.map fun x=>x.2.2)/\RepL K H vs ys:=by simp only [Rep]
theorem rep_exc{x:Str}{f:Option (Str×Int)}{v:V}: Rep K H (.exc x f) v↔∃a C,v=.ref a/\(∃od,H a=some (.ext (XE a C od))/\XF H od f)/\PySem.W.nsIn K mainGlobals x=some (some (.ref C))/\qie K C:=by simp only [Rep]
theorem rep_obj{x:Str}{v:V}: Rep K H (.obj x) v↔∃a dx C,v=.ref a/\H a=some (.ins C dx [])/\PySem.W.nsIn K mainGlobals x=some (some (.ref C))/\qif K C:=by simp only [Rep]
end
class Lam where
 tab:List (Addr×Str)
class Pin where
 pin:Option Addr
instance (priority:=low) pin0:Pin:=⟨none⟩
variable[Lam][Pin]
def Tab(H:Hp): Prop:=∀p∈Lam.tab,∃ps,H p.1=some (.tbl ps)/\TriplesOk ps.toList/\∀pos cv,codeAmong pos ps.toList=some cv->∃c φ,cv=.ref c/\H c=some (.ext φ)/\∀h, φ h->h.CodeRec (.ref c) p.2
def qe4(F:Hp): Prop:=∀p∈Lam.tab,F p.1=none
theorem Tab.updG{H:Hp}(t:Tab H){p:Addr}{o:HO}(h:∀u,H p=some u->(∀ps,u ≠ .tbl ps)/\∀ φ,u ≠ .ext φ): Tab (upd H p o):=fun q hq=>by
 obtain⟨ps,e,ht,k⟩:=t q hq;refine⟨ps,by rw [ql (fun z=>by subst z;exact(h _ e).1 ps rfl)];exact e,ht,fun pos cv z=>?_⟩;obtain⟨c, φ,e1,e2,e3⟩:=k pos cv z;exact⟨c, φ,e1,by rw [ql (fun z=>by subst z;exact(h _ e2).2 φ rfl)];exact e2,e3⟩
theorem Tab.upd{H:Hp}(t:Tab H){p:Addr}{o:HO}(h:H p=none\/∃xs,H p=some (.lst xs)): Tab (upd H p o):=t.updG fun u e=>by
 rcases h with h|⟨xs,h⟩
 ·rw [h] at e;cases e
 ·rw [h] at e;cases e;exact⟨nofun,nofun⟩
abbrev KO:=(Addr×Addr×List (Str×V)) ⊕ List (Key×V)
def KO.ho:KO->HO
 | .inl u=>.ins u.1 u.2.1 u.2.2
 | .inr k=>.dK k
structure Kept(H H':Hp): Prop where
 lst:∀b xs,H b=some (.lst xs)->H' b=some (.lst xs)
 ext:∀b φ,H b=some (.ext φ)->H' b=some (.ext φ)
 free:∀ {b},H' b=none->H b=none
 tb:Tab H->Tab H'
 dk:∀b (u:KO),H b=some u.ho->H' b=some u.ho
theorem Kept.refl(H:Hp): Kept H H:=⟨fun _ _ e=>e,fun _ _ e=>e,fun e=>e,fun t=>t,fun _ _ e=>e⟩
theorem Kept.trans{H H1 H2:Hp}(a:Kept H H1)(b:Kept H1 H2): Kept H H2:=⟨fun c xs e=>b.lst c xs (a.lst c xs e),fun c φ e=>b.ext c φ (a.ext c φ e),fun e=>a.free (b.free e),fun t=>b.tb (a.tb t),fun c kvs e=>b.dk c kvs (a.dk c kvs e)⟩
theorem Kept.new{H:Hp}{p:Addr}{o:HO}(hp:H p=none): Kept H (upd H p o):=⟨fun b xs e=>by rw [ql (jh e hp)];exact e,fun b φ e=>by rw [ql (jh e hp)];exact e,fun {b} e=>by
 by_cases z:b=p
 ·subst z;exact hp
 ·rw [ql z] at e;exact e,fun t=>t.upd (.inl hp),fun b kvs e=>by rw [ql (jh e hp)];exact e⟩
structure SameT(F H:Hp): Prop where
 s:Same F H
 t:Tab H
 f:qe4 F
structure Grow(F H F' H':Hp): Prop where
 ff:Same F F'
 hh:Kept H H'
 fh:Same F' H'
 nw:∀b,F' b≠none->F b≠none\/H b=none
theorem Grow.refl{F H:Hp}(h:Same F H): Grow F H F H:=⟨.refl _,.refl _,h,fun _ h=>.inl h⟩
theorem Grow.trans{F H F1 H1 F2 H2:Hp}(a:Grow F H F1 H1)(b:Grow F1 H1 F2 H2): Grow F H F2 H2:=
 ⟨a.ff.trans b.ff,a.hh.trans b.hh,b.fh,fun c h=>(b.nw c h).elim (fun z=>a.nw c z) fun z=>.inr (a.hh.free z)⟩
theorem xc{H:Hp}{p:Addr}{o:HO}(h:H p=none): Same H (upd H p o):=fun b u q=>by rw [ql (jh q h)];exact q
theorem qc8{F H:Hp}{p:Addr}{o:HO}(h:Same F H): Same (upd F p o) (upd H p o):=fun b u q=>by
 unfold upd at q ⊢
 split
 ·rename_i z;rw [gu z] at q;exact q
 ·rename_i z;rw [mf z] at q;exact h _ _ q
theorem Grow.new{F H:Hp}{p:Addr}{o:HO}(h:Same F H)(hp:H p=none): Grow F H (upd F p o) (upd H p o):=
 ⟨xc (h.free hp),.new hp,qc8 h,fun b hb=>by
  by_cases e:b=p
  ·subst e;exact .inr hp
  ·rw [ql e] at hb;exact .inl hb⟩
theorem Grow.own{F H:Hp}{p:Addr}{o:HO}(h:Same F H)(hp:H p=none): Grow F H F (upd H p o):=
 ⟨.refl _,.new hp,h.trans (xc hp),fun _ h=>.inl h⟩
inductive B where
 | fz (d:D)
 | ow (ds:List D)
 | od (kvs:Str×List (Str×D))
abbrev Rho:=List (Option B)
def FsR(K:Frag)(F:Hp): List (Str×D)->List (Str×V)->Prop
 | [],vs=>vs=[]
 | p :: fs,vs=>∃v r,vs=(p.1,v) :: r/\Rep K F p.2 v/\FsR K F fs r
omit [Lam] [Pin] in
theorem FsR.mono{K:Frag}{F F':Hp}(s:Same F F'): ∀ {fs:List (Str×D)} {vs:List (Str×V)},FsR K F fs vs->FsR K F' fs vs
 | [],_,h=>h
 | p :: fs,_,⟨v,r,e,h1,h2⟩=>⟨v,r,e,h1.mono s,FsR.mono s h2⟩
structure ODt(K:Frag)(F H H0:Hp)(a:Addr)(bs:List Addr)(kvs:Str×List (Str×D)): Prop where
 nb:bs=[]
 ex:∃C dx vs,H a=some (.ins C dx vs)/\PySem.W.nsIn K mainGlobals kvs.1=some (some (.ref C))/\FsR K F kvs.2 vs
 f:F a=none
 z:H0 a=none
 pn:∀p,Pin.pin=some p->a=p
structure RS(K:Frag)(F0 H0 F H:Hp)(σ : St)(ρ : Rho): Prop where
 t0:Tab H0/\qe4 F0
 g:Grow F0 H0 F H
 len : σ.length = ρ.length
 fz:∀(i:Nat) (d:D), ρ[i]? = some (some (.fz d))->∃v, σ[i]? = some (some v)/\Rep K F d v
 ow:∀(i:Nat) (ds:List D), ρ[i]? = some (some (.ow ds))->∃a xs, σ[i]? = some (some (.ref a))/\H a=some (.lst xs)/\F a=none/\H0 a=none/\RepL K F ds xs
 dj:∀(i j:Nat) (ds es:List D) (a:Addr),i≠j -> ρ[i]? = some (some (.ow ds)) -> ρ[j]? = some (some (.ow es)) -> σ[i]? = some (some (.ref a)) -> σ[j]? ≠ some (some (.ref a))
 od:∀(i:Nat) (kvs:Str×List (Str×D)), ρ[i]? = some (some (.od kvs))->∃a bs, σ[i]? = some (some (.ref a))/\ODt K F H H0 a bs kvs/\∀(j:Nat) (es:List D) (b:Addr), ρ[j]? = some (some (.ow es))->b∈bs -> σ[j]? ≠ some (some (.ref b))
 o1:∀(i j:Nat) (k1 k2:Str×List (Str×D)), ρ[i]? = some (some (.od k1)) -> ρ[j]? = some (some (.od k2))->i=j
theorem q9n{F H F' H':Hp}{a:Addr}{o:HO}(g:Grow F H F' H')(h1:F a=none)(h2:H a=some o): F' a=none:=by
 cases q:F' a with
 | none=>rfl
 | some o=>
  rcases g.nw a (by rw [q];simp) with z|z
  ·exact absurd h1 z
  ·rw [h2] at z;cases z
theorem ODt.mem{K:Frag}{F H H0:Hp}{a:Addr}{bs:List Addr}{kvs:Str×List (Str×D)}(o:ODt K F H H0 a bs kvs){b:Addr}(h:b∈bs): ∃xs,H b=some (.lst xs)/\F b=none/\H0 b=none:=by
 rw [o.nb] at h;cases h
theorem ODt.nl{K:Frag}{F H H0:Hp}{a:Addr}{bs:List Addr}{kvs:Str×List (Str×D)}(o:ODt K F H H0 a bs kvs){xs:List V}(h:H a=some (.lst xs)): False:=by
 obtain⟨C,dx,vs,e,_⟩:=o.ex;rw [h] at e;cases e
theorem ODt.grow{K:Frag}{F H F' H' H0:Hp}{a:Addr}{bs:List Addr}{kvs:Str×List (Str×D)}(o:ODt K F H H0 a bs kvs)(g:Grow F H F' H'): ODt K F' H' H0 a bs kvs:=by
 obtain⟨C,dx,vs,e1,e2,e3⟩:=o.ex;exact⟨o.nb,⟨C,dx,vs,g.hh.dk a (.inl (C,dx,_)) e1,e2,e3.mono g.ff⟩,q9n g o.f e1,o.z,o.pn⟩
theorem ODt.other{K:Frag}{F H H0:Hp}{a p:Addr}{bs:List Addr}{kvs:Str×List (Str×D)}{u:HO}(o:ODt K F H H0 a bs kvs)(h1:p≠a)(h2:p∉bs): ODt K F (upd H p u) H0 a bs kvs:=by
 obtain⟨C,dx,vs,e1,e2,e3⟩:=o.ex;exact⟨o.nb,⟨C,dx,vs,by rw [ql (m5 h1)];exact e1,e2,e3⟩,o.f,o.z,o.pn⟩
theorem ODt.otherF{K:Frag}{F H H0:Hp}{a p:Addr}{bs:List Addr}{kvs:Str×List (Str×D)}{u:HO}(o:ODt K F H H0 a bs kvs)(hs:Same F (upd F p u))(h1:p≠a)(h2:p∉bs): ODt K (upd F p u) H H0 a bs kvs:=by
 obtain⟨C,dx,vs,e1,e2,e3⟩:=o.ex;exact⟨o.nb,⟨C,dx,vs,e1,e2,e3.mono hs⟩,by rw [ql (m5 h1)];exact o.f,o.z,o.pn⟩
section
variable{K:Frag}{F0 H0 F H F' H':Hp}{σ : St}{ρ : Rho}
theorem RS.fh(r:RS K F0 H0 F H σ ρ): Same F H:=r.g.fh
theorem RS.tab(r:RS K F0 H0 F H σ ρ): Tab H:=r.g.hh.tb r.t0.1
theorem RS.tabF(r:RS K F0 H0 F H σ ρ): qe4 F:=fun p hp=>by
 cases q:F p.1 with
 | none=>rfl
 | some o=>
  rcases r.g.nw p.1 (by rw [q];simp) with z|z
  ·exact absurd (r.t0.2 p hp) z
  ·obtain⟨ps,e,_⟩:=r.t0.1 p hp
   rw [e] at z;cases z
theorem RS.grow(r:RS K F0 H0 F H σ ρ)(g:Grow F H F' H'): RS K F0 H0 F' H' σ ρ where
 t0:=r.t0
 g:=r.g.trans g
 len:=r.len
 fz:=fun i d e=>let⟨v,e1,e2⟩:=r.fz i d e; ⟨v,e1,e2.mono g.ff⟩
 ow:=fun i ds e=>by
  obtain⟨a,xs,e1,e2,e3,e4,e5⟩:=r.ow i ds e;refine⟨a,xs,e1,g.hh.lst _ _ e2,?_,e4,e5.mono g.ff⟩;cases q:F' a with
  | none=>rfl
  | some o=>
   rcases g.nw a (by rw [q];simp) with z|z
   ·exact absurd e3 z
   ·rw [e2] at z;cases z
 dj:=r.dj
 od:=fun i kvs e=>let⟨a,bs,e1,e2,e3⟩:=r.od i kvs e; ⟨a,bs,e1,e2.grow g,e3⟩
 o1:=r.o1
theorem RS.sameT(r:RS K F0 H0 F H σ ρ)(g:Grow F H F' H'): SameT F' H':=⟨g.fh,(r.grow g).tab,(r.grow g).tabF⟩
theorem qm{α : Type}{l:List α}{i:Nat}{x y : α}(h:(l.set i x)[i]? = some y): y=x/\i<l.length:=by
 rw [uh] at h;simp only [pd] at h
 split at h
 ·exact⟨(mi h).symm,by assumption⟩
 ·cases h
theorem RS.set(r:RS K F0 H0 F H σ ρ){d:D}{v:V}(i:Nat)(h:Rep K F d v): RS K F0 H0 F H (σ.set i (some v)) (ρ.set i (some (.fz d))) where
 t0:=r.t0
 g:=r.g
 len:=by rw [mr,mr];exact r.len
 fz:=fun j e h1=>by
  by_cases q:j=i
  ·subst q
   obtain⟨z,l⟩:=qm h1;cases z;exact⟨v,by rw [uh];simp [r.len,l],h⟩
  ·rw [g8 (m5 q)] at h1 ⊢
   exact r.fz j e h1
 ow:=fun j ds h1=>by
  by_cases q:j=i
  ·subst q
   obtain⟨z,l⟩:=qm h1;cases z
  ·rw [g8 (m5 q)] at h1 ⊢
   exact r.ow j ds h1
 dj :=fun j k ds es a hjk h1 h2 h3=>by
  by_cases q:j=i
  ·subst q
   obtain⟨z,l⟩:=qm h1;cases z
  ·by_cases q2:k=i
   ·subst q2
    obtain⟨z,l⟩:=qm h2;cases z
   ·rw [g8 (m5 q)] at h1 h3
    rw [g8 (m5 q2)] at h2 ⊢;exact r.dj j k ds es a hjk h1 h2 h3
 od :=fun j kvs h1=>by
  by_cases q:j=i
  ·subst q
   obtain⟨z,l⟩:=qm h1;cases z
  ·rw [g8 (m5 q)] at h1 ⊢
   obtain⟨a,bs,e1,e2,e3⟩:=r.od j kvs h1;refine⟨a,bs,e1,e2,fun k es b h2 h3=>?_⟩
   by_cases q2:k=i
   ·subst q2
    obtain⟨z,l⟩:=qm h2;cases z
   ·rw [g8 (m5 q2)] at h2 ⊢
    exact e3 k es b h2 h3
 o1 :=fun j k k1 k2 h1 h2=>by
  by_cases q:j=i
  ·subst q
   obtain⟨z,l⟩:=qm h1;cases z
  ·by_cases q2:k=i
   ·subst q2
    obtain⟨z,l⟩:=qm h2;cases z
   ·rw [g8 (m5 q)] at h1
    rw [g8 (m5 q2)] at h2;exact r.o1 j k k1 k2 h1 h2
theorem RS.setO(r:RS K F0 H0 F H σ ρ){ds:List D}{xs:List V}{a:Addr}(i:Nat)(h1:H a=some (.lst xs))(h2:F a=none)(h3:H0 a=none)(h4:RepL K F ds xs)
  (h5:∀(j:Nat) (es:List D), ρ[j]? = some (some (.ow es)) -> σ[j]? ≠ some (some (.ref a)))
  (h6:∀(j:Nat) (kvs:Str×List (Str×D)), ρ[j]? = some (some (.od kvs))->∃a' bs, σ[j]? = some (some (.ref a'))/\ODt K F H H0 a' bs kvs/\a∉bs/\∀(j':Nat) (es:List D) (b:Addr), ρ[j']? = some (some (.ow es))->b∈bs -> σ[j']? ≠ some (some (.ref b))):RS K F0 H0 F H (σ.set i (some (.ref a))) (ρ.set i (some (.ow ds))) where
 t0:=r.t0
 g:=r.g
 len:=by rw [mr,mr];exact r.len
 fz:=fun j e q1=>by
  by_cases q:j=i
  ·subst q
   obtain⟨z,l⟩:=qm q1;cases z
  ·rw [g8 (m5 q)] at q1 ⊢
   exact r.fz j e q1
 ow:=fun j es q1=>by
  by_cases q:j=i
  ·subst q
   obtain⟨z,l⟩:=qm q1;cases z;exact⟨a,xs,by rw [uh];simp [r.len,l],h1,h2,h3,h4⟩
  ·rw [g8 (m5 q)] at q1 ⊢
   exact r.ow j es q1
 dj :=fun j k ds' es b hjk q1 q2 q3=>by
  by_cases q:j=i
  ·subst q
   have e3:=qm q3;have eb:b=a:=by have:=e3.1;simpa using this
   subst eb;rw [g8 hjk] at q2 ⊢;exact h5 k es q2
  ·rw [g8 (m5 q)] at q1 q3
   by_cases q4:k=i
   ·subst q4
    intro z;have eb:b=a:=by have:=(qm z).1;simpa using this
    subst eb;exact h5 j ds' q1 q3
   ·rw [g8 (m5 q4)] at q2 ⊢
    exact r.dj j k ds' es b hjk q1 q2 q3
 od :=fun j kvs q1=>by
  by_cases q:j=i
  ·subst q
   obtain⟨z,l⟩:=qm q1;cases z
  ·rw [g8 (m5 q)] at q1 ⊢
   obtain⟨a',bs,e1,e2,e3,e4⟩:=h6 j kvs q1;refine⟨a',bs,e1,e2,fun k es b p1 p2 p3=>?_⟩
   by_cases q2:k=i
   ·subst q2
    have eb:b=a:=by have:=(qm p3).1;simpa using this
    exact e3 (eb ▸ p2)
   ·rw [g8 (m5 q2)] at p1 p3
    exact e4 k es b p1 p2 p3
 o1 :=fun j k k1 k2 p1 p2=>by
  by_cases q:j=i
  ·subst q
   obtain⟨z,l⟩:=qm p1;cases z
  ·by_cases q2:k=i
   ·subst q2
    obtain⟨z,l⟩:=qm p2;cases z
   ·rw [g8 (m5 q)] at p1
    rw [g8 (m5 q2)] at p2;exact r.o1 j k k1 k2 p1 p2
theorem RS.wrt(r:RS K F0 H0 F H σ ρ){ds es:List D}{ys:List V}{a:Addr}{i:Nat}(h1 : ρ[i]? = some (some (.ow ds)))(h2 : σ[i]? = some (some (.ref a)))(h4:RepL K F es ys):
  RS K F0 H0 F (upd H a (.lst ys)) σ (ρ.set i (some (.ow es))):=by
 obtain⟨a',xs,e1,e2,e3,e4,e5⟩:=r.ow i ds h1;rw [h2] at e1;obtain rfl:a=a':=by simpa using e1
 have nF:∀b o,F b=some o->b≠a:=fun b o e z=>by subst z;rw [e3] at e;cases e
 exact {
  t0:=r.t0
  g :=⟨r.g.ff,⟨fun b o e=>by rw [ql (fun z=>by subst z;rw [e4] at e;cases e)];exact r.g.hh.lst b o e,fun b o e=>by rw [ql (fun z=>by subst z;rw [e4] at e;cases e)];exact r.g.hh.ext b o e,fun {b} e=>by
    by_cases z:b=a
    ·subst z;exact e4
    ·rw [ql z] at e;exact r.g.hh.free e,fun t=>(r.g.hh.tb t).upd (.inr ⟨_,e2⟩),fun b o e=>by rw [ql (fun z=>by subst z;rw [e4] at e;cases e)];exact r.g.hh.dk b o e⟩,fun b o e=>by rw [ql (nF b o e)];exact r.g.fh b o e,r.g.nw⟩
  len:=by rw [mr];exact r.len
  fz:=fun j e q1=>by
   by_cases q:j=i
   ·subst q
    obtain⟨z,l⟩:=qm q1;cases z
   ·rw [g8 (m5 q)] at q1
    exact r.fz j e q1
  ow :=fun j es' q1=>by
   by_cases q:j=i
   ·subst q
    obtain⟨z,l⟩:=qm q1;cases z;exact⟨a,ys,h2,qw,e3,e4,h4⟩
   ·rw [g8 (m5 q)] at q1
    obtain⟨b,zs,f1,f2,f3,f4,f5⟩:=r.ow j es' q1;have hb:b≠a:=fun z=>by
     subst z;exact r.dj i j ds es' b (m5 q) h1 q1 h2 f1
    exact⟨b,zs,f1,by rw [ql hb];exact f2,f3,f4,f5⟩
  dj:=fun j k ds' es' b hjk q1 q2 q3=>by
   have back:∀(l:Nat) (us:List D),(ρ.set i (some (.ow es)))[l]? = some (some (.ow us))->∃ws, ρ[l]? = some (some (.ow ws)):=fun l us z=>by
    by_cases q:l=i
    ·subst q;exact⟨ds,h1⟩
    ·rw [g8 (m5 q)] at z;exact⟨us,z⟩
   obtain⟨w1,z1⟩:=back j ds' q1;obtain⟨w2,z2⟩:=back k es' q2;exact r.dj j k w1 w2 b hjk z1 z2 q3
  od:=fun j kvs q1=>by
   by_cases q:j=i
   ·subst q
    obtain⟨z,l⟩:=qm q1;cases z
   ·rw [g8 (m5 q)] at q1
    obtain⟨a',bs,f1,f2,f3⟩:=r.od j kvs q1;refine⟨a',bs,f1,f2.other (fun z=>by subst z;exact f2.nl e2) fun z=>f3 i ds a h1 z h2,fun k es' b p1 p2=>?_⟩
    by_cases q2:k=i
    ·subst q2;exact f3 k ds b h1 p2
    ·rw [g8 (m5 q2)] at p1;exact f3 k es' b p1 p2
  o1 :=fun j k k1 k2 p1 p2=>by
   have back:∀(l:Nat) (us),(ρ.set i (some (.ow es)))[l]? = some (some (.od us)) -> ρ[l]? = some (some (.od us)):=fun l us z=>by
    by_cases q:l=i
    ·subst q
     obtain⟨z',_⟩:=qm z;cases z'
    ·rw [g8 (m5 q)] at z;exact z
   exact r.o1 j k k1 k2 (back _ _ p1) (back _ _ p2)}
theorem RS.freeze(r:RS K F0 H0 F H σ ρ){ds:List D}{i:Nat}(h1 : ρ[i]? = some (some (.ow ds))): ∃F',Same F F'/\RS K F0 H0 F' H σ (ρ.set i (some (.fz (.lst ds)))):=by
 obtain⟨a,xs,e1,e2,e3,e4,e5⟩:=r.ow i ds h1;have sF:Same F (upd F a (.lst xs)):=xc e3;refine⟨upd F a (.lst xs),sF,?_⟩;exact {
  t0:=r.t0
  g :=⟨r.g.ff.trans sF,r.g.hh,fun b o e=>by
    by_cases q:b=a
    ·subst q;rw [qw] at e;cases e;exact e2
    ·rw [ql q] at e;exact r.g.fh b o e,fun b hb=>by
    by_cases q:b=a
    ·subst q;exact .inr e4
    ·rw [ql q] at hb;exact r.g.nw b hb⟩
  len:=by rw [mr];exact r.len
  fz:=fun j e q1=>by
   by_cases q:j=i
   ·subst q
    obtain⟨z,l⟩:=qm q1;cases z;exact⟨_,e1,rep_lst.mpr ⟨a,xs,rfl,SqL.of qw,e5.mono sF⟩⟩
   ·rw [g8 (m5 q)] at q1
    obtain⟨v,z1,z2⟩:=r.fz j e q1;exact⟨v,z1,z2.mono sF⟩
  ow :=fun j es' q1=>by
   by_cases q:j=i
   ·subst q
    obtain⟨z,l⟩:=qm q1;cases z
   ·rw [g8 (m5 q)] at q1
    obtain⟨b,zs,f1,f2,f3,f4,f5⟩:=r.ow j es' q1;have hb:b≠a:=fun z=>by
     subst z;exact r.dj i j ds es' b (m5 q) h1 q1 e1 f1
    exact⟨b,zs,f1,f2,by rw [ql hb];exact f3,f4,f5.mono sF⟩
  dj :=fun j k ds' es' b hjk q1 q2 q3=>by
   have back:∀(l:Nat) (us:List D),(ρ.set i (some (.fz (.lst ds))))[l]? = some (some (.ow us)) -> ρ[l]? = some (some (.ow us)):=fun l us z=>by
    by_cases q:l=i
    ·subst q
     obtain⟨z',_⟩:=qm z;cases z'
    ·rw [g8 (m5 q)] at z;exact z
   exact r.dj j k ds' es' b hjk (back _ _ q1) (back _ _ q2) q3
  od:=fun j kvs q1=>by
   by_cases q:j=i
   ·subst q
    obtain⟨z,l⟩:=qm q1;cases z
   ·rw [g8 (m5 q)] at q1
    obtain⟨a',bs,f1,f2,f3⟩:=r.od j kvs q1;refine⟨a',bs,f1,f2.otherF sF (fun z=>by subst z;exact f2.nl e2) fun z=>f3 i ds a h1 z e1,fun k es' b p1 p2=>?_⟩
    by_cases q2:k=i
    ·subst q2;exact f3 k ds b h1 p2
    ·rw [g8 (m5 q2)] at p1;exact f3 k es' b p1 p2
  o1 :=fun j k k1 k2 p1 p2=>by
   have back:∀(l:Nat) (us),(ρ.set i (some (.fz (.lst ds))))[l]? = some (some (.od us)) -> ρ[l]? = some (some (.od us)):=fun l us z=>by
    by_cases q:l=i
    ·subst q
     obtain⟨z',_⟩:=qm z;cases z'
    ·rw [g8 (m5 q)] at z;exact z
   exact r.o1 j k k1 k2 (back _ _ p1) (back _ _ p2)}
end
end DL
namespace DL
open PySem PySem.Spec PyProof.Rows L2
variable[Lam][Pin]
abbrev lim:Nat:=1000000
theorem xf{n:Nat}(h:n<=lim): n<=sizeLine:=ma h (by decide)
theorem q25{n:Nat}(h:n<lim): n<sizeLine:=gw h (by decide)
abbrev FE:=Rho->Option D
abbrev FT:=Rho->Option Bool
abbrev FA:=Rho->Option (List D)
inductive Fl where
 | nx|bk|ct
 | rt (d:D)
abbrev FS:=Rho->Option (Fl×Rho)
def tD(K:Frag)(f:FE): TE:=fun σ H Q=>∃F0 H0 F ρ d,RS K F0 H0 F H σ ρ /\ f ρ = some d/\∀v F' H',Grow F H F' H'->Rep K F' d v->Q v H'
def tL(K:Frag)(f:FA): TE:=fun σ H Q=>∃F0 H0 F ρ ds,RS K F0 H0 F H σ ρ /\ f ρ = some ds/\∀a xs F' H',Grow F H F' H'->F' a=none->H a=none->H' a=some (.lst xs)->RepL K F' ds xs->Q (.ref a) H'
def tDT(K:Frag)(f:FT): TT:=fun σ H Q=>∃F0 H0 F ρ b,RS K F0 H0 F H σ ρ /\ f ρ = some b/\∀F' H',Grow F H F' H'->Q b H'
def tDA(K:Frag)(f:FA): TA:=fun σ H Q=>∃F0 H0 F ρ ds,RS K F0 H0 F H σ ρ /\ f ρ = some ds/\∀vs F' H',Grow F H F' H'->RepL K F' ds vs->Q vs H'
def q4d(K:Frag)(F0 H0 F:Hp)(D:Ends)(fl:Fl)(ρ':Rho): Prop:=match fl with
 | .nx=>∀ σ' F' H',Same F F'->RS K F0 H0 F' H' σ' ρ'->D.nx σ' H'
 | .bk=>∀ σ' F' H',Same F F'->RS K F0 H0 F' H' σ' ρ'->D.bk σ' H'
 | .ct=>∀ σ' F' H',Same F F'->RS K F0 H0 F' H' σ' ρ'->D.ct σ' H'
 | .rt d=>∀v σ' F' H',RS K F0 H0 F' H' σ' ρ'->Rep K F' d v->D.rt v H'
def tDS(K:Frag)(f:FS): TS:=fun D σ H=>∃F0 H0 F ρ fl ρ',RS K F0 H0 F H σ ρ /\ f ρ = some (fl, ρ')/\q4d K F0 H0 F D fl ρ'
section
variable{X:Cx}{e:Expr}{pos:Pos}
theorem ze{t t':TE}(h:PE X e t)(i:∀ σ H Q,t' σ H Q->t σ H Q): PE X e t':=fun pins s σ H Q I q=>h pins s σ H Q I (i σ H Q q)
theorem q4e{t t':TT}(h:PT X e t)(i:∀ σ H Q,t' σ H Q->t σ H Q): PT X e t':=fun pins s σ H Q I q=>h pins s σ H Q I (i σ H Q q)
theorem qc9{es:List Expr}{t t':TA}(h:PA X es t)(i:∀ σ H Q,t' σ H Q->t σ H Q): PA X es t':=fun pos pins s σ H Q I q=>h pos pins s σ H Q I (i σ H Q q)
theorem km{st:Stmt}{t t':TS}(h:PS X st t)(i:∀D σ H,t' D σ H->t D σ H): PS X st t':=fun pins s σ H D I q=>h pins s σ H D I (i D σ H q)
theorem q31{st:List Stmt}{t t':TS}(h:PSs X st t)(i:∀D σ H,t' D σ H->t D σ H): PSs X st t':=fun pins s σ H D I q=>h pins s σ H D I (i D σ H q)
def eV(i:Nat): FE:=fun ρ =>match ρ[i]? with
 | some (some (.fz d))=>some d
 | _=>none
def eC(d:D): FE:=fun _=>some d
theorem qga{i:Nat}{ρ : Rho}{d:D}(h:eV i ρ = some d): ρ[i]? = some (some (.fz d)):=by
 unfold eV at h
 split at h
 ·rename_i e;rw [e,mi h]
 ·cases h
theorem q0{K:Frag}{i:Nat}(h:PE X e (q3q i)): PE X e (tD K (eV i)):=ze h fun σ H Q ⟨F0,H0,F, ρ,d,r,hf,q⟩=>by
 obtain⟨v,e1,e2⟩:=r.fz i d (qga hf);exact⟨v,e1,q v F H (.refl r.fh) e2⟩
theorem q07{K:Frag}{v:V}{d:D}(h:PE X e (tC v))(hd:∀H,Rep K H d v): PE X e (tD K (eC d)):=ze h fun σ H Q ⟨F0,H0,F, ρ,d',r,hf,q⟩=>by
 cases hf;exact q v F H (.refl r.fh) (hd F)
theorem qd{K:Frag}{i j}: PE X (.Constant (.int i) j pos) (tD K (eC (.int i))):=q07 qhl fun _=>rep_int.mpr rfl
theorem q4f{K:Frag}{b j}: PE X (.Constant (.bool b) j pos) (tD K (eC (.bl b))):=q07 qjs fun _=>rep_bl.mpr rfl
theorem jo{K:Frag}{x j}: PE X (.Constant (.str x) j pos) (tD K (eC (.str x))):=q07 qhm fun _=>rep_str.mpr rfl
def rD(K:Frag)(op:D->D->Option D): R2:=fun x y H Q=>∃F d1 d2 d,Same F H/\Rep K F d1 x/\Rep K F d2 y/\op d1 d2=some d/\∀v F' H',Grow F H F' H'->Rep K F' d v->Q v H'
def eOp(op:D->D->Option D)(f g:FE): FE:=fun ρ =>(f ρ).bind fun x=>(g ρ).bind fun y=>op x y
theorem two{K:Frag}{f g:FE}{op:D->D->Option D}{σ : St}{H:Hp}{Q:VK}(h:tD K (eOp op f g) σ H Q): tD K f σ H fun x H1=>tD K g σ H1 fun y H2=>rD K op x y H2 Q:=by
 obtain⟨F0,H0,F, ρ,d,r,hf,q⟩:=h;obtain⟨d1,h1,hf⟩:=g0.mp hf;obtain⟨d2,h2,h3⟩:=g0.mp hf;refine⟨F0,H0,F, ρ,d1,r,h1,fun v F1 H1 g1 r1=>⟨F0,H0,F1, ρ,d2,r.grow g1,h2,fun u F2 H2 g2 r2=>?_⟩⟩;exact⟨F2,d1,d2,d,g2.fh,r1.mono g2.ff,r2,h3,fun w F3 H3 g3 r3=>q w F3 H3 (g1.trans (g2.trans g3)) r3⟩
variable{a b:Expr}{f g:FE}
theorem qi{op:Operator}{o:D->D->Option D}(ho:OpR X (binaryOp op) (rD X.K o))(ha:PE X a (tD X.K f))(hb:PE X b (tD X.K g)): PE X (.BinOp a op b pos) (tD X.K (eOp o f g)):=
 ze (qk0 ho ha hb) fun σ H Q h=>two h
theorem wu{f:Value->Value->Sem Value}{r r':R2}(h:OpR X f r)(i:∀x y H Q,r' x y H Q->r x y H Q): OpR X f r':=fun pins s σ H x y v u Q I rx ry q=>h pins s σ H x y v u Q I rx ry (i x y H Q q)
theorem q7f{f:Value->Value->Sem Value}{K:Frag}{o o':D->D->Option D}(h:OpR X f (rD K o))(h':OpR X f (rD K o')): OpR X f (rD K fun x y=>(o x y).or (o' x y)):=fun pins s σ H x y v u Q I rx ry q=>by
 obtain⟨F,d1,d2,d,q1,q2,q3,q4,q5⟩:=q;have q4:(o d1 d2).or (o' d1 d2)=some d:=q4;cases e:o d1 d2 with
 | some d'=>rw [e] at q4;cases q4;exact h pins s σ H x y v u Q I rx ry ⟨F,d1,d2,_,q1,q2,q3,e,q5⟩
 | none=>rw [e] at q4;exact h' pins s σ H x y v u Q I rx ry ⟨F,d1,d2,d,q1,q2,q3,q4,q5⟩
def oI(C:Int->Int->Bool)(z:Int->Int->Int): D->D->Option D
 | .int i,.int j=>if C i j then some (.int (z i j)) else none
 | _,_=>none
def oB(z:Int->Int->Bool): D->D->Option D
 | .int i,.int j=>some (.bl (z i j))
 | _,_=>none
theorem q9o{C:Int->Int->Bool}{z:Int->Int->Int}{d1 d2 d:D}(h:oI C z d1 d2=some d): ∃i j,d1=.int i/\d2=.int j/\C i j=true/\d=.int (z i j):=by
 cases d1 <;> cases d2 <;> simp only [oI] at h <;> first|(cases h;done)|skip
 split at h
 ·exact⟨_,_,rfl,rfl,by assumption,(mi h).symm⟩
 ·cases h
theorem qgb{z:Int->Int->Bool}{d1 d2 d:D}(h:oB z d1 d2=some d): ∃i j,d1=.int i/\d2=.int j/\d=.bl (z i j):=by
 cases d1 <;> cases d2 <;> simp only [oB] at h <;> first|(cases h;done)|skip
 exact⟨_,_,rfl,rfl,(mi h).symm⟩
theorem q6x{fv:Value->Value->Sem Value}{P:Int->Int->Prop}{C:Int->Int->Bool}{z:Int->Int->Int}(h:OpR X fv (rI P fun i j=>.int (z i j)))(hC:∀i j,C i j=true->P i j): OpR X fv (rD X.K (oI C z)):=
 wu h fun x y H Q ⟨F,d1,d2,d,q1,q2,q3,q4,q5⟩=>by
  obtain⟨i,j,rfl,rfl,c,rfl⟩:=q9o q4;exact⟨i,j,rep_int.mp q2,rep_int.mp q3,hC i j c,q5 _ F H (.refl q1) (rep_int.mpr rfl)⟩
theorem qca{fv:Value->Value->Sem Value}{z:Int->Int->Int}(h:OpR X fv (rI0 fun i j=>.int (z i j))): OpR X fv (rD X.K (oI (fun _ _=>true) z)):=
 wu h fun x y H Q ⟨F,d1,d2,d,q1,q2,q3,q4,q5⟩=>by
  obtain⟨i,j,rfl,rfl,c,rfl⟩:=q9o q4;exact⟨i,j,rep_int.mp q2,rep_int.mp q3,q5 _ F H (.refl q1) (rep_int.mpr rfl)⟩
theorem qcb{fv:Value->Value->Sem Value}{z:Int->Int->Bool}(h:OpR X fv (rI0 fun i j=>.bl (z i j))): OpR X fv (rD X.K (oB z)):=
 wu h fun x y H Q ⟨F,d1,d2,d,q1,q2,q3,q4,q5⟩=>by
  obtain⟨i,j,rfl,rfl,rfl⟩:=qgb q4;exact⟨i,j,rep_int.mp q2,rep_int.mp q3,q5 _ F H (.refl q1) (rep_bl.mpr rfl)⟩
abbrev oAdd:=oI (fun _ _=>true) fun i j=>i+j
abbrev oSub:=oI (fun _ _=>true) fun i j=>i-j
abbrev oMul:=oI (fun i j=>(decide (-(2 ^ 64)<i)&&decide (i<2 ^ 64)) || (decide (-(2 ^ 64)<j)&&decide (j<2 ^ 64))) fun i j=>i*j
abbrev oDiv:=oI (fun _ j=>decide (0<j)&&decide (j<1073741824)) fun i j=>i / j
abbrev oMod:=oI (fun _ j=>decide (0<j)) fun i j=>i%j
theorem yu{p q:Prop}[Decidable p][Decidable q](h:(decide p&&decide q)=true): p/\q:=by simpa using h
theorem qig:OpR X (binaryOp .Add) (rD X.K oAdd):=qca qhw
theorem qih:OpR X (binaryOp .Sub) (rD X.K oSub):=qca qhx
theorem qii:OpR X (binaryOp .Mult) (rD X.K oMul):=q6x qhy fun i j h=>by
 rcases g06 _ _ ▸ h with z|z
 ·exact .inl (yu z)
 ·exact .inr (yu z)
theorem q08:OpR X (binaryOp .FloorDiv) (rD X.K oDiv):=q6x qfw fun i j h=>yu h
theorem zg:OpR X (binaryOp .Mod) (rD X.K oMod):=q6x qhz fun i j h=>t9 h
abbrev oPow:=oI (fun i j=>decide (0<=j)&&(decide (j<=1000000)&&decide (i.natAbs<2 ^ 64))) fun i j=>i ^ j.toNat
theorem qe5{p q r:Prop}[Decidable p][Decidable q][Decidable r](h:(decide p&&(decide q&&decide r))=true): p/\q/\r:=by simpa using h
theorem qij:OpR X (binaryOp .Pow) (rD X.K oPow):=q6x qi0 fun i j h=>qe5 h
abbrev oLt:=oB fun i j=>decide (i<j)
abbrev oLe:=oB fun i j=>decide (i<=j)
abbrev oGt:=oB fun i j=>decide (j<i)
abbrev oGe:=oB fun i j=>decide (j<=i)
theorem q4g:OpR X (compareOp .LtE) (rD X.K oLe):=qcb qk2
theorem q4h:OpR X (compareOp .Gt) (rD X.K oGt):=qcb qk3
def flD:D->Option V
 | .non=>some .non
 | .bl b=>some (.bl b)
 | .int i=>some (.int i)
 | .str x=>some (.str x)
 | _=>none
theorem q9p{K:Frag}{H:Hp}{d:D}{v u:V}(h:flD d=some u)(r:Rep K H d v): v=u:=by
 cases d <;> simp only [flD] at h <;> first|(cases h;done)|skip
 ·cases h;exact rep_non.mp r
 ·cases h;exact rep_bl.mp r
 ·cases h;exact rep_int.mp r
 ·cases h;exact rep_str.mp r
def q7g:D->D->Option D:=fun d e=>(flD d).bind fun x=>(flD e).bind fun y=>if q59 x y then some (.bl (decide (x=y))) else none
def qik:D->D->Option D:=fun d e=>(flD d).bind fun x=>(flD e).bind fun y=>if q59 x y then some (.bl (!decide (x=y))) else none
theorem qil:OpR X (compareOp .Eq) (rD X.K q7g):=wu qk1 fun x y H Q ⟨F,d1,d2,d,q1,q2,q3,q4,q5⟩=>by
 obtain⟨u,h1,q4⟩:=g0.mp q4;obtain⟨w,h2,q4⟩:=g0.mp q4;cases q9p h1 q2;cases q9p h2 q3
 split at q4
 ·rename_i z
  cases q4;exact⟨z,q5 _ F H (.refl q1) (rep_bl.mpr rfl)⟩
 ·cases q4
theorem q15{op:CmpOp}{o:D->D->Option D}(ho:OpR X (compareOp op) (rD X.K o))(ha:PE X a (tD X.K f))(hb:PE X b (tD X.K g))(hm:behindInMarks op b=false:=by first|exact q75 _ (by decide) (by decide)|rfl):
  PE X (.Compare a [op] [b] pos) (tD X.K (eOp o f g)):=ze (qfz ho ha hb hm) fun σ H Q h=>two h
def q7h:D->Option Bool
 | .non=>some false
 | .bl b=>some b
 | .int i=>some (i != 0)
 | .tup ds=>some (!ds.isEmpty)
 | .lst ds=>some (!ds.isEmpty)
 | .str x=>if x.length<=lim then some ((x.length:Int) != 0) else none
 | _=>none
def bT(f:FE): FT:=fun ρ =>(f ρ).bind q7h
theorem qim{K:Frag}{F H:Hp}{d:D}{b:Bool}{v:V}(h:q7h d=some b)(fh:Same F H)(r:Rep K F d v): qdt K v H b:=by
 cases d with
 | non=>cases h;rw [rep_non.mp r];rfl
 | bl c=>cases h;rw [rep_bl.mp r];rfl
 | int i=>cases h;rw [rep_int.mp r];rfl
 | str x=>
  simp only [q7h] at h
  split at h
  ·rename_i z
   cases h;rw [rep_str.mp r];exact⟨xf z,rfl⟩
  ·cases h
 | tup ds=>
  cases h;obtain⟨p,xs,rfl,q1,q2⟩:=rep_tup.mp r;refine .inr (.inl ⟨xs,qr fh q1,?_⟩);cases ds with
  | nil=>rw [q2.nil_inv];rfl
  | cons d ds=>obtain⟨y,r',rfl,_⟩:=q2.cons_inv;rfl
 | lst ds=>
  cases h;obtain⟨p,xs,rfl,q1,q2⟩:=rep_lst.mp r;refine .inl ⟨xs,fh.seq q1,?_⟩;cases ds with
  | nil=>rw [q2.nil_inv];rfl
  | cons d ds=>obtain⟨y,r',rfl,_⟩:=q2.cons_inv;rfl
 | dct _ _=>cases h
 | dtt _ _=>cases h
 | obj _=>cases h
 | exc _ _=>cases h
theorem q09(ha:PE X a (tD X.K f))(he:∀whole,isTrue a X.env whole=(do let v <- whole;standAt a.pos;holding [v] (truthy v)):=by intro _;rfl): PT X a (tDT X.K (bT f)):=
 q4e (qdu ha he) fun σ H Q ⟨F0,H0,F, ρ,b,r,hf,q⟩=>by
  obtain⟨d,h1,h2⟩:=g0.mp hf;exact⟨F0,H0,F, ρ,d,r,h1,fun v F' H' g' r'=>⟨b,qim h2 g'.fh r',q F' H' g'⟩⟩
def isB:D->Option Bool
 | .bl b=>some b
 | _=>none
def vm(o:D->D->Option D)(f g:FE): FT:=fun ρ =>(eOp o f g ρ).bind isB
theorem xn{op:CmpOp}{o:D->D->Option D}(ho:OpR X (compareOp op) (rD X.K o))(ha:PE X a (tD X.K f))(hb:PE X b (tD X.K g))(hm:behindInMarks op b=false:=by first|exact q75 _ (by decide) (by decide)|rfl):
  PT X (.Compare a [op] [b] pos) (tDT X.K (vm o f g)):=q4e (qg0 ho ha hb hm) fun σ H Q ⟨F0,H0,F, ρ,c,r,hf,q⟩=>by
 obtain⟨d,h1,h2⟩:=g0.mp hf;refine two ⟨F0,H0,F, ρ,d,r,h1,fun v F' H' g' r'=>?_⟩;cases d <;> simp only [isB] at h2 <;> first|(cases h2;done)|skip
 cases h2;exact⟨_,rep_bl.mp r',q F' H' g'⟩
def w6(t:FT): FT:=fun ρ =>(t ρ).map not
def q3t(t u:FT): FT:=fun ρ =>(t ρ).bind fun c=>if c then u ρ else some false
def bOr(t u:FT): FT:=fun ρ =>(t ρ).bind fun c=>if c then some true else u ρ
variable{t u:FT}{rest:List Expr}
theorem kn(ha:PT X a (tDT X.K t)): PT X (.UnaryOp .Not a pos) (tDT X.K (w6 t)):=q4e (qhp ha) fun σ H Q ⟨F0,H0,F, ρ,c,r,hf,q⟩=>by
 obtain⟨d,h1,h2⟩:=gq.mp hf;subst h2;exact⟨F0,H0,F, ρ,d,r,h1,fun F' H' g'=>q F' H' g'⟩
theorem qcc{t t':TT}(h:PW X a t)(i:∀ σ H Q,t' σ H Q->t σ H Q): PW X a t':=fun wh pins s σ H Q I q=>h wh pins s σ H Q I (i σ H Q q)
theorem qgc(ha:PT X a (tDT X.K t)): PW X (.BoolOp .And [a] pos) (tDT X.K t):=qfu ha
theorem qcd(ha:PT X a (tDT X.K t)): PW X (.BoolOp .Or [a] pos) (tDT X.K t):=qhn ha
theorem qin(ha:PT X a (tDT X.K t))(hb:PW X (.BoolOp .And (b :: rest) pos) (tDT X.K u)): PW X (.BoolOp .And (a :: b :: rest) pos) (tDT X.K (q3t t u)):=qcc (qho ha hb) fun σ H Q ⟨F0,H0,F, ρ,c,r,hf,q⟩=>by
 obtain⟨d,h1,h2⟩:=g0.mp hf;refine⟨F0,H0,F, ρ,d,r,h1,fun F' H' g'=>?_⟩;cases d with
 | true=>rw [gu rfl] at h2 ⊢;exact⟨F0,H0,F', ρ,c,r.grow g',h2,fun F2 H2 g2=>q F2 H2 (g'.trans g2)⟩
 | false=>rw [mf gx] at h2 ⊢;cases h2;exact q F' H' g'
theorem qfg(ha:PT X a (tDT X.K t))(hb:PW X (.BoolOp .Or (b :: rest) pos) (tDT X.K u)): PW X (.BoolOp .Or (a :: b :: rest) pos) (tDT X.K (bOr t u)):=qcc (qjt ha hb) fun σ H Q ⟨F0,H0,F, ρ,c,r,hf,q⟩=>by
 obtain⟨d,h1,h2⟩:=g0.mp hf;refine⟨F0,H0,F, ρ,d,r,h1,fun F' H' g'=>?_⟩;cases d with
 | false=>rw [mf gx] at h2 ⊢;exact⟨F0,H0,F', ρ,c,r.grow g',h2,fun F2 H2 g2=>q F2 H2 (g'.trans g2)⟩
 | true=>rw [gu rfl] at h2 ⊢;cases h2;exact q F' H' g'
def q0u(f g:FE): FE:=fun ρ =>(f ρ).bind fun x=>(isB x).bind fun c=>if c then g ρ else some (.bl false)
def eOr(f g:FE): FE:=fun ρ =>(f ρ).bind fun x=>(isB x).bind fun c=>if c then some (.bl true) else g ρ
def qe6(f:FE): FE:=fun ρ =>(f ρ).bind fun x=>(isB x).map fun c=>.bl (!c)
def eIf(t:FT)(f g:FE): FE:=fun ρ =>(t ρ).bind fun c=>if c then f ρ else g ρ
theorem q3u{d:D}{c:Bool}(h:isB d=some c): d=.bl c:=by
 cases d <;> simp only [isB] at h <;> first|(cases h;done)|skip
 rw [mi h]
theorem q4i{op}(h:PE X a (tD X.K f)): PE X (.BoolOp op [a] pos) (tD X.K f):=qhq h
theorem q4j(ha:PE X a (tD X.K f))(hb:PE X (.BoolOp .And (b :: rest) pos) (tD X.K g)): PE X (.BoolOp .And (a :: b :: rest) pos) (tD X.K (q0u f g)):=ze (qhr ha hb) fun σ H Q ⟨F0,H0,F, ρ,d,r,hf,q⟩=>by
 obtain⟨x,h1,hf⟩:=g0.mp hf;obtain⟨c,h2,h3⟩:=g0.mp hf;refine⟨F0,H0,F, ρ,x,r,h1,fun v F' H' g' r'=>?_⟩;rw [q3u h2] at r';refine⟨c,rep_bl.mp r',?_⟩;cases c with
 | true=>rw [gu rfl] at h3 ⊢;exact⟨F0,H0,F', ρ,d,r.grow g',h3,fun w F2 H2 g2 r2=>q w F2 H2 (g'.trans g2) r2⟩
 | false=>rw [mf gx] at h3 ⊢;cases h3;exact q _ F' H' g' (rep_bl.mpr rfl)
end
section
variable{X:Cx}{e:Expr}{es:List Expr}{pos:Pos}{f g:FE}{fa:FA}
def notStar:Expr->Bool
 | .Starred _ _=>false
 | _=>true
theorem wx{e:Expr}{es:List Expr}{env:Env}(h:notStar e=true): starEach (e :: es) env=(false,eval e env) :: starEach es env:=by
 cases e <;> first|rfl|cases h
def qg:FA:=fun _=>some []
def qa(f:FE)(fa:FA): FA:=fun ρ =>(f ρ).bind fun d=>(fa ρ).map fun ds=>d :: ds
theorem qf:PA X [] (tDA X.K qg):=qc9 vt fun σ H Q ⟨F0,H0,F, ρ,ds,r,hf,q⟩=>by
 cases hf;exact q [] F H (.refl r.fh) .nil
theorem q9q(ha:PE X e (tD X.K f))(hr:PA X es (tDA X.K fa))(hs:starEach (e :: es) X.env=(false,eval e X.env) :: starEach es X.env:=by first|exact wx rfl|rfl): PA X (e :: es) (tDA X.K (qa f fa)):=
 qc9 (jt ha hr hs) fun σ H Q ⟨F0,H0,F, ρ,ds,r,hf,q⟩=>by
  obtain⟨d,h1,hf⟩:=g0.mp hf;obtain⟨ds',h2,h3⟩:=gq.mp hf;subst h3;refine⟨F0,H0,F, ρ,d,r,h1,fun v F1 H1 g1 r1=>⟨F0,H0,F1, ρ,ds',r.grow g1,h2,fun vs F2 H2 g2 r2=>?_⟩⟩;exact q _ F2 H2 (g1.trans g2) (.cons (r1.mono g2.ff) r2)
def x5(fa:FA): FE:=fun ρ =>(fa ρ).bind fun ds=>if ds.length<=lim then some (.tup ds) else none
def q0a(fa:FA): FA:=fun ρ =>(fa ρ).bind fun ds=>if ds.length<=lim then some ds else none
theorem xp{x1}(h:PA X es (tDA X.K fa)): PE X (.Tuple es x1 pos) (tD X.K (x5 fa)):=ze (qi3 h) fun σ H Q ⟨F0,H0,F, ρ,d,r,hf,q⟩=>by
 obtain⟨ds,h1,h2⟩:=g0.mp hf
 split at h2
 ·rename_i hl
  cases h2;refine⟨F0,H0,F, ρ,ds,r,h1,fun vs F1 H1 g1 r1=>⟨xf (by rw [<- r1.length];exact hl),fun p hp=>?_⟩⟩;have gn:Grow F1 H1 (upd F1 p (.tup vs)) (upd H1 p (.tup vs)):=Grow.new g1.fh hp;exact q _ _ _ (g1.trans gn) (rep_tup.mpr ⟨p,vs,rfl,SqT.of qw,r1.mono gn.ff⟩)
 ·cases h2
theorem q0b(h:PA X es (tDA X.K fa)): PE X (.List es pos) (tL X.K (q0a fa)):=ze (qi4 h) fun σ H Q ⟨F0,H0,F, ρ,ds,r,hf,q⟩=>by
 obtain⟨ds',h1,h2⟩:=g0.mp hf
 split at h2
 ·rename_i hl
  cases h2;refine⟨F0,H0,F, ρ,ds,r,h1,fun vs F1 H1 g1 r1=>⟨xf (by rw [<- r1.length];exact hl),fun p hp=>?_⟩⟩;exact q p vs F1 (upd H1 p (.lst vs)) (g1.trans (Grow.own g1.fh hp)) (g1.fh.free hp) (g1.hh.free hp) qw r1
 ·cases h2
def eL(fa:FA): FE:=fun ρ =>(fa ρ).map .lst
theorem jq(h:PE X e (tL X.K fa)): PE X e (tD X.K (eL fa)):=ze h fun σ H Q ⟨F0,H0,F, ρ,d,r,hf,q⟩=>by
 obtain⟨ds,h1,h2⟩:=gq.mp hf;subst h2;refine⟨F0,H0,F, ρ,ds,r,h1,fun a xs F1 H1 g1 fa' ha' hl r1=>?_⟩;have sF:Same F1 (upd F1 a (.lst xs)):=xc fa';refine q _ (upd F1 a (.lst xs)) H1 ⟨g1.ff.trans sF,g1.hh,fun b o z=>?_,fun b hb=>?_⟩ (rep_lst.mpr ⟨a,xs,rfl,SqL.of qw,r1.mono sF⟩)
 ·by_cases q':b=a
  ·subst q';rw [qw] at z;cases z;exact hl
  ·rw [ql q'] at z;exact g1.fh b o z
 ·by_cases q':b=a
  ·subst q';exact .inr ha'
  ·rw [ql q'] at hb;exact g1.nw b hb
def rC(K:Frag)(op:List D->Option D): List V->Hp->VK->Prop:=fun xs H Q=>∃F ds d,Same F H/\RepL K F ds xs/\op ds=some d/\∀v F' H',Grow F H F' H'->Rep K F' d v->Q v H'
def qh(op:List D->Option D)(fa:FA): FE:=fun ρ =>(fa ρ).bind op
theorem ko{f:Value}{r r':List V->Hp->VK->Prop}(h:zm X f r)(i:∀xs H Q,r' xs H Q->r xs H Q): zm X f r':=fun pins s σ H xs us Q I rv q=>h pins s σ H xs us Q I rv (i xs H Q q)
theorem qce{K:Frag}{op:List D->Option D}{σ : St}{H:Hp}{Q:VK}(h:tD K (qh op fa) σ H Q): tDA K fa σ H fun vs H1=>rC K op vs H1 Q:=by
 obtain⟨F0,H0,F, ρ,d,r,hf,q⟩:=h;obtain⟨ds,h1,h2⟩:=g0.mp hf;exact⟨F0,H0,F, ρ,ds,r,h1,fun vs F1 H1 g1 r1=>⟨F1,ds,d,g1.fh,r1,h2,fun v F2 H2 g2 r2=>q v F2 H2 (g1.trans g2) r2⟩⟩
theorem zl{x:Str}{p:Pos}{id:String}{op:List D->Option D}(hc:zm X (.builtin id) (rC X.K op))(hg:Gl X x)(hm:X.mg x=none)(hv:bootBuiltins x=some (.builtin id))(ha:PA X (e :: es) (tDA X.K fa))
  (hn:x≠"__name__" :=by decide) (hdb:(x==("__debug__" : Str))=false:=by decide)
  (he:starEach (e :: es) X.env=(false,eval e X.env) :: starEach es X.env:=by rfl) (hpl:(backTo pos (starEach es X.env)).any (·.1)=false:=by rfl):PE X (.Call (.Name x p) (e :: es) [] pos) (tD X.K (qh op fa)):=
 ze (q04 hc hg hm hv ha hn hdb he hpl) fun σ H Q h=>qce h
theorem zy{x:Str}{p:Pos}{T:String}{op:List D->Option D}(hc:zm X (.type T) (rC X.K op))(hg:Gl X x)(hm:X.mg x=none)(hv:bootBuiltins x=some (.type T))(ha:PA X (e :: es) (tDA X.K fa))
  (hn:x≠"__name__" :=by decide) (hdb:(x==("__debug__" : Str))=false:=by decide)
  (he:starEach (e :: es) X.env=(false,eval e X.env) :: starEach es X.env:=by rfl) (hpl:(backTo pos (starEach es X.env)).any (·.1)=false:=by rfl):PE X (.Call (.Name x p) (e :: es) [] pos) (tD X.K (qh op fa)):=
 ze (q63 hc hg hm hv ha hn hdb he hpl) fun σ H Q h=>qce h
def spD(K:Frag)(ar:Nat)(op:List D->Option D): Sp:=fun vs H Q _=>∃F ds d,SameT F H/\RepL K F ds vs/\ds.length=ar/\op ds=some d/\∀v F' H',Grow F H F' H'->Rep K F' d v->Q v H'
def qo(ar:Nat)(dds:List D)(op:List D->Option D): List D->Option D:=fun ds=>if(ds++dds).length=ar then op (ds++dds) else none
theorem qgd{k ar:Nat}{fn:Addr}{fd:FuncData}{ps:List Str}{op:List D->Option D}{x:Str}{p:Pos}{dvs:List V}{dds:List D}{dv:List Value}(F:FnOk X.prog X.w X.K X.mg X.base CX0 k fn fd ps (spD X.K ar op))(hr:Room k X.A)(hg:Gl X x)(hm:X.mg x=some (.ref fn))(hk:PySem.W.keepIn X.K (.ref fn)=true)
  (hb:Binds X.K fd ps dv) (hd:Vals dvs dv) (hdd:∀H,RepL X.K H dds dvs) (ha:PA X (e :: es) (tDA X.K fa)) (hdb:(x==("__debug__" : Str))=false:=by decide)
  (he:starEach (e :: es) X.env=(false,eval e X.env) :: starEach es X.env:=by rfl) (hpl:(backTo pos (starEach es X.env)).any (·.1)=false:=by rfl) :
  PE X (.Call (.Name x p) (e :: es) [] pos) (tD X.K (qh (qo ar dds op) fa)):=
 ze (qg2 F hr hg hm hk hb hd qk9 ha hdb he hpl) fun σ H Q ⟨F0,H0,Fz, ρ,d,r,hf,q⟩=>by
  obtain⟨ds,h1,h2⟩:=g0.mp hf;unfold qo at h2
  split at h2
  ·rename_i hl
   exact⟨F0,H0,Fz, ρ,ds,r,h1,fun vs F1 H1 g1 r1=>⟨F1,ds++dds,d,r.sameT g1,r1.append (hdd F1),hl,h2,fun v F2 H2 g2 r2=>q v F2 H2 (g1.trans g2) r2⟩⟩
  ·cases h2
end
section
variable{X:Cx}{st:Stmt}{rest:List Stmt}{e:Expr}{pos:Pos}{f:FE}{fa:FA}{t:FT}{u w:FS}
def x8:FS:=fun ρ =>some (.nx, ρ)
def qt(u w:FS): FS:=fun ρ =>(u ρ).bind fun r=>match r with
 | (.nx, ρ')=>w ρ'
 | (fl, ρ')=>some (fl, ρ')
def sIf(t:FT)(u w:FS): FS:=fun ρ =>(t ρ).bind fun c=>if c then u ρ else w ρ
def zp(i:Nat)(f:FE): FS:=fun ρ =>(f ρ).map fun d=>(.nx, ρ.set i (some (.fz d)))
def q0c(i:Nat)(fa:FA): FS:=fun ρ =>(fa ρ).map fun ds=>(.nx, ρ.set i (some (.ow ds)))
def zj(f:FE): FS:=fun ρ =>(f ρ).map fun d=>(.rt d, ρ)
def qka:FS:=fun ρ =>some (.rt .non, ρ)
def ql6:FS:=fun ρ =>some (.bk, ρ)
def ql7:FS:=fun ρ =>some (.ct, ρ)
def qkb(f:FE): FS:=fun ρ =>(f ρ).map fun _=>(.nx, ρ)
theorem ja:PSs X [] (tDS X.K x8):=q31 qfv fun D σ H ⟨F0,H0,F, ρ,fl, ρ',r,hf,q⟩=>by
 cases hf;exact q σ F H (.refl _) r
theorem yw{K:Frag}{F0 H0 F F':Hp}{D:Ends}{fl:Fl}{ρ':Rho}(s:Same F F')(h:q4d K F0 H0 F D fl ρ'): q4d K F0 H0 F' D fl ρ':=by
 cases fl with
 | nx=>exact fun σ' F2 H2 s2 r=>h σ' F2 H2 (s.trans s2) r
 | bk=>exact fun σ' F2 H2 s2 r=>h σ' F2 H2 (s.trans s2) r
 | ct=>exact fun σ' F2 H2 s2 r=>h σ' F2 H2 (s.trans s2) r
 | rt d=>exact h
theorem qk(h1:PS X st (tDS X.K u))(h2:PSs X rest (tDS X.K w)): PSs X (st :: rest) (tDS X.K (qt u w)):=q31 (q3r h1 h2) fun D σ H ⟨F0,H0,F, ρ,fl, ρ',r,hf,q⟩=>by
 obtain⟨⟨fl1, ρ1⟩,h3,h4⟩:=g0.mp hf;refine⟨F0,H0,F, ρ,fl1, ρ1,r,h3,?_⟩;cases fl1 with
 | nx=>exact fun σ' F' H' s r'=>⟨F0,H0,F', ρ1,fl, ρ',r',h4,yw s q⟩
 | bk=>cases h4;exact q
 | ct=>cases h4;exact q
 | rt d=>cases h4;exact q
theorem qq(h1:PS X st (tDS X.K u)): PSs X [st] (tDS X.K u):=q58 h1
theorem ju{c:Expr}{a b:List Stmt}(hc:PT X c (tDT X.K t))(ha:PSs X a (tDS X.K u))(hb:PSs X b (tDS X.K w)): PS X (.If c a b pos) (tDS X.K (sIf t u w)):=km (qjw hc ha hb) fun D σ H ⟨F0,H0,F, ρ,fl, ρ',r,hf,q⟩=>by
 obtain⟨c,h1,h2⟩:=g0.mp hf;refine⟨F0,H0,F, ρ,c,r,h1,fun F' H' g'=>?_⟩;cases c with
 | true=>rw [gu rfl] at h2 ⊢;exact⟨F0,H0,F', ρ,fl, ρ',r.grow g',h2,yw g'.ff q⟩
 | false=>rw [mf gx] at h2 ⊢;exact⟨F0,H0,F', ρ,fl, ρ',r.grow g',h2,yw g'.ff q⟩
theorem z5(he:PE X e (tD X.K f)): PS X (.Return (some e) pos) (tDS X.K (zj f)):=km (qhs he) fun D σ H ⟨F0,H0,F, ρ,fl, ρ',r,hf,q⟩=>by
 obtain⟨d,h1,h2⟩:=gq.mp hf;cases h2;exact⟨F0,H0,F, ρ,d,r,h1,fun v F' H' g' r'=>q v σ F' H' (r.grow g') r'⟩
theorem qkc{K:Frag}{i:Nat}{D:Ends}{σ : St}{H:Hp}(h:tDS K (zp i f) D σ H): tD K f σ H fun x H1=>ka i x σ H1 D.nx:=by
 obtain⟨F0,H0,F, ρ,fl, ρ',r,hf,q⟩:=h;obtain⟨d,h1,h2⟩:=gq.mp hf;cases h2;exact⟨F0,H0,F, ρ,d,r,h1,fun v F' H' g' r'=>q _ F' H' g'.ff ((r.grow g').set i r')⟩
theorem qfh{K:Frag}{i:Nat}{D:Ends}{σ : St}{H:Hp}(h:tDS K (q0c i fa) D σ H): tL K fa σ H fun x H1=>ka i x σ H1 D.nx:=by
 obtain⟨F0,H0,F, ρ,fl, ρ',r,hf,q⟩:=h;obtain⟨ds,h1,h2⟩:=gq.mp hf;cases h2;refine⟨F0,H0,F, ρ,ds,r,h1,fun a xs F' H' g' fa' ha' hl r'=>q _ F' H' g'.ff ((r.grow g').setO i hl fa' (r.g.hh.free ha') r' (fun j es z1 z2=>?_) fun j kvs z1=>?_)⟩
 ·obtain⟨b,ys,e1,e2,_⟩:=r.ow j es z1
  rw [z2] at e1;obtain rfl:a=b:=by simpa using e1
  rw [ha'] at e2;cases e2
 ·obtain⟨b,bs,e1,e2,e3⟩:=r.od j kvs z1
  refine⟨b,bs,e1,e2.grow g',fun z=>?_,e3⟩;obtain⟨xs,f,_⟩:=e2.mem z;rw [ha'] at f;cases f
theorem z9{i:Nat}{x:Str}{px:Pos}(hN:X.N.Nodup)(hi:X.N[i]? = some x)(hx:Loc X.env.scope x)(he:PE X e (tD X.K f))(hs:swapsWith e (some (.Name x px)) pos.line X.env=pure false:=by rfl)(hf:X.fn x=true\/X.env.scope.names.lookup x=some .local:=by first|exact .inl rfl|exact .inr rfl|assumption):
  PS X (.Assign [.Name x px] e pos) (tDS X.K (zp i f)):=km (q76 hN hi hx he hs hf) fun D σ H h=>qkc h
theorem q7i{i:Nat}{x:Str}{px:Pos}(hN:X.N.Nodup)(hi:X.N[i]? = some x)(hx:Loc X.env.scope x)(he:PE X e (tL X.K fa))(hs:swapsWith e (some (.Name x px)) pos.line X.env=pure false:=by rfl)(hf:X.fn x=true\/X.env.scope.names.lookup x=some .local:=by first|exact .inl rfl|exact .inr rfl|assumption):
  PS X (.Assign [.Name x px] e pos) (tDS X.K (q0c i fa)):=km (q76 hN hi hx he hs hf) fun D σ H h=>qfh h
def q3v(i:Nat)(ρ : Rho): Option (List D):=match ρ[i]? with
 | some (some (.ow ds))=>some ds
 | _=>none
theorem qcf{i:Nat}{ρ : Rho}{ds:List D}(h:q3v i ρ = some ds): ρ[i]? = some (some (.ow ds)):=by
 unfold q3v at h
 split at h
 ·rename_i e;rw [e,mi h]
 ·cases h
def q0d(i:Nat)(f:FE): FS:=fun ρ =>(q3v i ρ).bind fun ds=>(f ρ).bind fun d=>if ds.length<lim then some (.nx, ρ.set i (some (.ow (ds++[d])))) else none
theorem q7j{i:Nat}{x:Str}{px apos cpos:Pos}(hv:PE X (.Name x px) (q3q i))(he:PE X e (tD X.K f))
  (hbase:attributeBase (.Name x px) "append" X.env (eval (.Name x px) X.env)=eval (.Name x px) X.env:=by rfl)
  (hfew:((backTo cpos (starEach [e] X.env)).all (fun x=> !x.1)&&(backToKw cpos (keywordEach [] X.env)).all (fun x=>x.1.isSome)&&decide ([e].length+([]:List Keyword).length+(if([]:List Keyword).isEmpty then 0 else 1)<30))=true:=by rfl)
  (hline:(apos.endLine==cpos.line)=true:=by rfl) (hse:starEach [e] X.env=(false,eval e X.env) :: starEach [] X.env:=by rfl)
  (hs:swapsWith (.Call (.Attribute (.Name x px) "append" apos) [e] [] cpos) none pos.line X.env=pure false:=by rfl):PS X (.Expr (.Call (.Attribute (.Name x px) "append" apos) [e] [] cpos) pos) (tDS X.K (q0d i f)):=
 km (q9j (q4a PySem.F.plainAttrs_list PySem.F.slot_list_append PySem.F.type_list_append q64 hv (jt he vt hse) hbase hfew hline hse rfl) hs) fun D σ H ⟨F0,H0,F, ρ,fl, ρ',r,hf,q⟩=>by
  obtain⟨ds,h1,hf⟩:=g0.mp hf;obtain⟨d,h2,h3⟩:=g0.mp hf;have h1:=qcf h1
  split at h3
  ·rename_i hl
   cases h3;obtain⟨a,xs,e1,e2,e3,e4,e5⟩:=r.ow i ds h1;refine⟨.ref a,e1,.inl ⟨rfl,xs,SqL.of e2⟩,F0,H0,F, ρ,d,r,h2,fun v F' H' g' r'=>?_⟩;have r2:=r.grow g';refine⟨a,xs,v,rfl,rfl,g'.hh.lst _ _ e2,q25 (by rw [<- e5.length];exact hl),?_⟩;exact q _ F' _ g'.ff (r2.wrt h1 e1 ((e5.mono g'.ff).append (.cons r' .nil)))
  ·cases h3
def frz(i:Nat)(ρ : Rho): Rho:=match ρ[i]? with
 | some (some (.ow ds))=> ρ.set i (some (.fz (.lst ds)))
 | _=> ρ
def w8(i:Nat)(u:FS): FS:=fun ρ =>u (frz i ρ)
theorem qio{K:Frag}{F0 H0 F H:Hp}{σ : St}{ρ : Rho}(i:Nat)(r:RS K F0 H0 F H σ ρ): ∃F',Same F F'/\RS K F0 H0 F' H σ (frz i ρ):=by
 unfold frz
 split
 ·rename_i ds h
  exact r.freeze h
 ·exact⟨F,.refl _,r⟩
theorem q16(i:Nat){sts:List Stmt}(h:PSs X sts (tDS X.K u)): PSs X sts (tDS X.K (w8 i u)):=q31 h fun D σ H ⟨F0,H0,F, ρ,fl, ρ',r,hf,q⟩=>by
 obtain⟨F',s',r'⟩:=qio i r;exact⟨F0,H0,F',frz i ρ,fl, ρ',r',hf,yw s' q⟩
end
def zb(n:Nat)(u:FS)(ds:List D): Option D:=match u (ds.map (fun d=>some (.fz d))++List.replicate (n-ds.length) none) with
 | some (.rt d,_)=>some d
 | some (.nx,_)=>some .non
 | _=>none
theorem qcg{N:List Str}{vs:List V}{i:Nat}{v:V}(h:vs[i]? = some v): (L2.start N vs)[i]? = some (some v):=by
 unfold L2.start;have hi:i<vs.length:=(mq.mp h).1;rw [my (by simpa using hi),gv,h];rfl
theorem qip{P:Program}{w:World}{K:Frag}{H:Hp}{vs:List V}{Q:VK}{N:List Str}{u:FS}{ar:Nat}{E:XK}(hl:ar<=N.length)(h:spD K ar (zb N.length u) vs H Q E): tDS K u {nx:=fun _ H'=>Q .non H',rt:=Q} (L2.start N vs) H:=by
 obtain⟨F,ds,d,fh,rl,el,hd,q⟩:=h;have hlen:=rl.length;have r:RS K F H F H (L2.start N vs) (ds.map (fun d=>some (.fz d))++List.replicate (N.length-ds.length) none):={
  t0:=⟨fh.t,fh.f⟩
  g:=.refl fh.s
  len:=by unfold L2.start;simp only [gh,g7,g1k];omega
  fz :=fun i e h1=>by
   by_cases hi:i<ds.length
   ·rw [my (by simpa using hi),gv] at h1
    cases z:ds[i]? with
    | none=>rw [z] at h1;cases h1
    | some d'=>
     rw [z] at h1;cases h1;obtain⟨v,e1,e2⟩:=rl.get z;exact⟨v,qcg e1,e2⟩
   ·rw [n6 (by simpa using hi),nq] at h1
    split at h1 <;> cases h1
  ow:=fun i es h1=>by
   by_cases hi:i<ds.length
   ·rw [my (by simpa using hi),gv] at h1
    cases z:ds[i]? with
    | none=>rw [z] at h1;cases h1
    | some d'=>rw [z] at h1;cases h1
   ·rw [n6 (by simpa using hi),nq] at h1
    split at h1 <;> cases h1
  dj:=fun i j us es a _ h1=>by
   by_cases hi:i<ds.length
   ·rw [my (by simpa using hi),gv] at h1
    cases z:ds[i]? with
    | none=>rw [z] at h1;cases h1
    | some d'=>rw [z] at h1;cases h1
   ·rw [n6 (by simpa using hi),nq] at h1
    split at h1 <;> cases h1
  od:=fun i kvs h1=>by
   by_cases hi:i<ds.length
   ·rw [my (by simpa using hi),gv] at h1
    cases z:ds[i]? with
    | none=>rw [z] at h1;cases h1
    | some d'=>rw [z] at h1;cases h1
   ·rw [n6 (by simpa using hi),nq] at h1
    split at h1 <;> cases h1
  o1:=fun i j k1 k2 h1=>by
   by_cases hi:i<ds.length
   ·rw [my (by simpa using hi),gv] at h1
    cases z:ds[i]? with
    | none=>rw [z] at h1;cases h1
    | some d'=>rw [z] at h1;cases h1
   ·rw [n6 (by simpa using hi),nq] at h1
    split at h1 <;> cases h1}
 unfold zb at hd;cases z:u (ds.map (fun d=>some (.fz d))++List.replicate (N.length-ds.length) none) with
 | none=>rw [z] at hd;cases hd
 | some p=>
  obtain⟨fl, ρ'⟩:=p;rw [z] at hd;refine⟨F,H,F,_,fl, ρ',r,z,?_⟩;cases fl with
  | nx=>cases hd;exact fun σ' F' H' s' r'=>q .non F' H' r'.g (rep_non.mpr rfl)
  | bk=>cases hd
  | ct=>cases hd
  | rt d'=>cases hd;exact fun v σ' F' H' g' r'=>q v F' H' g'.g r'
theorem qkd{P:Program}{w:World}{K:Frag}{mg:Str->Option Value}{base:Heap}{k:Nat}{f:Addr}{name qual:Str}{params:Arguments}{body:List Stmt}{scope:Scope}{dV kV doc pm cdv ct oc:Value}{an od:Option Addr}
  {osl:Array (Option Value)} {N ps:List Str} {u:FS} (lk:K.lookup f=some ⟨oc,od,.func (PySem.W.fnOf name qual params body scope dV kV doc pm an cdv ct),osl⟩) (hcd:PySem.W.codeIn K cdv qual=true) (S:FnScope N ps scope)
  (hb:∀(A:Around) (outer:List Env) (s:Shared) (H:Hp) (E:XK),Room k (A.deeper (envOfC qual scope s.heap.objs.size f cdv))->PSs (j3 CX0 P w K mg base N qual scope f cdv A outer s H E).nox body (tDS K u)) :
  FnOk P w K mg base CX0 (k+1) f (PySem.W.fnOf name qual params body scope dV kV doc pm an cdv ct) ps (spD K ps.length (zb N.length u)):=by
 have hpl:ps.length<=N.length:=by have:=n3 List.length S.pre;rw [mn] at this;omega
 refine qk6 lk hcd S (fun vs H Q E h=>?_) fun A outer s H vs Q E hr hsp=>⟨_,(hb A outer s H E hr).nox,qip (P:=P) (w:=w) hpl hsp⟩
 obtain⟨F,ds,d,_,rl,el,_⟩:=h;rw [<- rl.length];exact el
structure ItD(K:Frag)(F:Hp)(ds:List D)(J:It): Prop where
 go:∀(i:Nat) (F' H:Hp),Same F F'->Same F' H->i<ds.length->J.go i H
 yld:∀(i:Nat) (d:D) (F' H:Hp) (x:V) (H':Hp),Same F F'->Same F' H->ds[i]? = some d->J.yld i H x H'->∃F'',Grow F' H F'' H'/\Rep K F'' d x
 stop:∀(i:Nat) (F' H:Hp),Same F F'->Same F' H->ds.length<=i->J.stop i H
def tDI(K:Frag)(f:FA): TI:=fun σ H R=>∃F0 H0 F ρ ds,RS K F0 H0 F H σ ρ /\ f ρ = some ds/\∀J F' H',Grow F H F' H'->ItD K F' ds J->R J H'
abbrev FB:=D->Rho->Option Rho
abbrev FBs:=List D->Rho->Option Rho
def tDG(K:Frag)(b:FB): TG:=fun v σ H Q=>∃F0 H0 F ρ d ρ',RS K F0 H0 F H σ ρ /\ Rep K F d v/\b d ρ = some ρ'/\∀ σ',RS K F0 H0 F H σ' ρ'->Q σ' H
def qat(K:Frag)(b:FBs): TGs:=fun vs σ H Q=>∃F0 H0 F ρ ds ρ',RS K F0 H0 F H σ ρ /\ RepL K F ds vs/\b ds ρ = some ρ'/\∀ σ',RS K F0 H0 F H σ' ρ'->Q σ' H
section
variable{X:Cx}{tg e:Expr}{es:List Expr}{pos:Pos}
theorem q7k{t t':TI}(h:PI X tg e t)(i:∀ σ H R,t' σ H R->t σ H R): PI X tg e t':=fun pins s σ H R I q=>h pins s σ H R I (i σ H R q)
theorem qch{t t':TG}(h:PG X e t)(i:∀v σ H Q,t' v σ H Q->t v σ H Q): PG X e t':=fun pins s σ H v u Q I r q=>h pins s σ H v u Q I r (i v σ H Q q)
theorem q9r{t t':TGs}(h:PGs X es t)(i:∀v σ H Q,t' v σ H Q->t v σ H Q): PGs X es t':=fun pins s σ H v u Q I r q=>h pins s σ H v u Q I r (i v σ H Q q)
def bN(i:Nat): FB:=fun d ρ =>some (ρ.set i (some (.fz d)))
def xg:FBs:=fun ds ρ =>if ds.isEmpty then some ρ else none
def za(b:FB)(bs:FBs): FBs:=fun ds ρ =>match ds with
 | d :: r=>(b d ρ).bind fun ρ'=>bs r ρ'
 | []=>none
def xh(n:Nat)(bs:FBs): FB:=fun d ρ =>match d with
 | .tup ds=>if ds.length=n then bs ds ρ else none
 | _=>none
theorem qx{i:Nat}{x:Str}(hN:X.N.Nodup)(hi:X.N[i]? = some x)(hx:Loc X.env.scope x)(hf:X.fn x=true\/X.env.scope.names.lookup x=some .local:=by first|exact .inl rfl|exact .inr rfl|assumption): PG X (.Name x pos) (tDG X.K (bN i)):=
 qch (q2z hN hi hx hf) fun v σ H Q ⟨F0,H0,F, ρ,d, ρ',r,hr,hb,q⟩=>by
  cases hb;exact q _ (r.set i hr)
theorem q0e:PGs X [] (qat X.K xg):=q9r q9k fun vs σ H Q ⟨F0,H0,F, ρ,ds, ρ',r,hr,hb,q⟩=>by
 unfold xg at hb
 split at hb
 ·rename_i z
  cases hb;have z':ds=[]:=by simpa using z
  subst z';exact⟨hr.nil_inv,q σ r⟩
 ·cases hb
theorem jd{b:FB}{bs:FBs}(h1:PG X e (tDG X.K b))(h2:PGs X es (qat X.K bs))(hs:(assignEach (e :: es) X.env).map (·.2)=assign e X.env :: (assignEach es X.env).map (·.2):=by rfl): PGs X (e :: es) (qat X.K (za b bs)):=
 q9r (q3s h1 h2 hs) fun vs σ H Q ⟨F0,H0,F, ρ,ds, ρ',r,hr,hb,q⟩=>by
  cases ds with
  | nil=>cases hb
  | cons d ds=>
   obtain⟨v,vr,rfl,h3,h4⟩:=hr.cons_inv;obtain⟨ρ1,h5,h6⟩:=g0.mp hb;exact⟨v,vr,rfl,F0,H0,F, ρ,d, ρ1,r,h3,h5,fun σ' r'=>⟨F0,H0,F, ρ1,ds, ρ',r',h4,h6,q⟩⟩
theorem q0f{k n:Nat}{bs:FBs}(hc:X.calm=true)(h:PGs X es (qat X.K bs))(hn:(assignEach es X.env).length=n:=by rfl)(hst:(assignEach es X.env).findIdx? (·.1)=none:=by rfl): PG X (.Tuple es k pos) (tDG X.K (xh n bs)):=
 qch (qbu hc h hn hst) fun v σ H Q ⟨F0,H0,F, ρ,d, ρ',r,hr,hb,q⟩=>by
  cases d <;> simp only [xh] at hb <;> first|(cases hb;done)|skip
  rename_i ds
  split at hb
  ·rename_i hl
   obtain⟨a,xs,rfl,h1,h2⟩:=rep_tup.mp hr;exact⟨a,xs,rfl,qr r.fh h1,by rw [<- h2.length];exact hl,F0,H0,F, ρ,ds, ρ',r,h2,hb,q⟩
  ·cases hb
def q4k(f:FE)(b:FB): FS:=fun ρ =>(f ρ).bind fun d=>(b d ρ).map fun ρ'=>(.nx, ρ')
theorem qge{f:FE}{b:FB}{ts:Expr}(he:PE X e (tD X.K f))(hg:PG X ts (tDG X.K b))(hs:swapsWithSole [ts] e pos.line X.env=pure false:=by rfl)(hw:swappedStores [ts] e X.env=pure none:=by rfl)
  (h1:(assignEach [ts] X.env).map (·.2)=[assign ts X.env]:=by rfl):PS X (.Assign [ts] e pos) (tDS X.K (q4k f b)):=km (qht he hg hs hw h1) fun D σ H ⟨F0,H0,F, ρ,fl, ρ',r,hf,q⟩=>by
 obtain⟨d,h2,h3⟩:=g0.mp hf;obtain⟨ρ1,h4,h5⟩:=gq.mp h3;cases h5;exact⟨F0,H0,F, ρ,d,r,h2,fun v F' H' g' r'=>⟨F0,H0,F', ρ,d, ρ',r.grow g',r',h4,fun σ' r2=>q σ' F' H' g'.ff r2⟩⟩
theorem qe7{K:Frag}{F:Hp}{a:Addr}{xs:List V}{ds:List D}(h:SqL K F a xs)(hd:RepL K F ds xs): ItD K F ds (Itl K a) where
 go:=fun i F' H s1 s2 hi=>⟨xs,xs[i]'(by rw [<- hd.length];exact hi),(s1.trans s2).seq h,by simp⟩
 yld:=fun i d F' H x H' s1 s2 hi ⟨e,y⟩=>by
  subst e;obtain⟨z,h1,h2⟩:=hd.get hi;have:=y xs ((s1.trans s2).seq h);rw [h1] at this;cases this;exact⟨F',.refl s2,h2.mono s1⟩
 stop:=fun i F' H s1 s2 hi=>⟨xs,(s1.trans s2).seq h,by rw [<- hd.length];exact hi⟩
theorem qgf{K:Frag}{F:Hp}{a:Addr}{xs:List V}{ds:List D}(h:SqT K F a xs)(hd:RepL K F ds xs): ItD K F ds (Itt K a) where
 go:=fun i F' H s1 s2 hi=>⟨xs,xs[i]'(by rw [<- hd.length];exact hi),qr (s1.trans s2) h,by simp⟩
 yld:=fun i d F' H x H' s1 s2 hi ⟨e,y⟩=>by
  subst e;obtain⟨z,h1,h2⟩:=hd.get hi;have:=y xs (qr (s1.trans s2) h);rw [h1] at this;cases this;exact⟨F',.refl s2,h2.mono s1⟩
 stop:=fun i F' H s1 s2 hi=>⟨xs,qr (s1.trans s2) h,by rw [<- hd.length];exact hi⟩
def qp(lo:Int)(n:Nat): List D:=(List.range n).map fun i:Nat=>.int (lo+i)
theorem q66{K:Frag}{F:Hp}(lo:Int)(n:Nat): ItD K F (qp lo n) (Itr lo n) where
 go:=fun i F' H s1 s2 hi=>by show i<n;simpa [qp] using hi
 yld:=fun i d F' H x H' s1 s2 hi ⟨e,y⟩=>by
  subst e y;simp only [qp,gv] at hi;cases q:(List.range n)[i]? with
  | none=>rw [q] at hi;cases hi
  | some j=>
   rw [q] at hi;cases hi;have:j=i:=by
    have h2:=mq.mp q;obtain⟨h3,h4⟩:=h2;rw [List.getElem_range] at h4;exact h4.symm
   subst this;exact⟨F',.refl s2,rep_int.mpr rfl⟩
 stop:=fun i F' H s1 s2 hi=>by show n<=i;simpa [qp] using hi
def q1h:D->Option (List D)
 | .tup ds=>some ds
 | .lst ds=>some ds
 | _=>none
def jr(f:FE): FA:=fun ρ =>(f ρ).bind q1h
theorem qke{l:Expr}{tl:TE}(hl:PE X l tl): PI X tg l (fun σ H R=>tl σ H fun x H1=>(∃a,x=.ref a/\(∃xs,SqL X.K H1 a xs)/\R (Itl X.K a) H1)\/(∃a,x=.ref a/\(∃xs,SqT X.K H1 a xs)/\R (Itt X.K a) H1)):=by
 intro pins s σ H R I h;refine thn (hl pins s σ H _ I h) fun v s1 ⟨x,H1,I1,r1,q1⟩=>?_;rcases q1 with⟨a,e,⟨xs,hq⟩,q⟩|⟨a,e,⟨xs,hq⟩,q⟩
 ·subst e
  cases r1;obtain⟨its,rv,p,hz⟩:=I1.list hq;refine g0q p.isList ?_;refine⟨s1.heap.objs.size,[s1.heap.objs.size],_,_,H1,rfl,I1.kept (t':=s1.toks) fun b o e=>gb _ e,qbv a _,⟨_,m4 _ rfl,rfl,rfl⟩,fun b hb=>?_,q⟩;have e:b=s1.heap.objs.size:=by simpa using hb
  subst e;exact I1.fpOk (gm _) (I1.hok.fresh (gm _))
 ·subst e
  cases r1;obtain⟨its,rv,p,hz⟩:=I1.tuple hq;refine wpAny_pyIter_tuple (show s1.heap.IsTuple a its.toArray from p) ?_;refine⟨s1.heap.objs.size,[s1.heap.objs.size],_,_,H1,rfl,I1.kept (t':=s1.toks) fun b o e=>gb _ e,qaj a _,⟨_,m4 _ rfl,rfl,rfl⟩,fun b hb=>?_,q⟩;have e:b=s1.heap.objs.size:=by simpa using hb
  subst e;exact I1.fpOk (gm _) (I1.hok.fresh (gm _))
theorem jv{f:FE}(h:PE X e (tD X.K f)): PI X tg e (tDI X.K (jr f)):=q7k (qke h) fun σ H R ⟨F0,H0,F, ρ,ds,r,hf,q⟩=>by
 obtain⟨d,h1,h2⟩:=g0.mp hf;refine⟨F0,H0,F, ρ,d,r,h1,fun v F' H' g' r'=>?_⟩;cases d <;> simp only [q1h] at h2 <;> first|(cases h2;done)|skip
 ·cases h2
  obtain⟨a,xs,rfl,h3,h4⟩:=rep_tup.mp r';exact .inr ⟨a,rfl,⟨xs,qr g'.fh h3⟩,q _ F' H' g' (qgf h3 h4)⟩
 ·cases h2
  obtain⟨a,xs,rfl,h3,h4⟩:=rep_lst.mp r';exact .inl ⟨a,rfl,⟨xs,g'.fh.seq h3⟩,q _ F' H' g' (qe7 h3 h4)⟩
def iR1(fa:FA): FA:=fun ρ =>(fa ρ).bind fun ds=>match ds with
 | [.int j]=>if decide (-(2 ^ 62)<=j)&&decide (j<2 ^ 62) then some (qp 0 j.toNat) else none
 | _=>none
def iR2(fa:FA): FA:=fun ρ =>(fa ρ).bind fun ds=>match ds with
 | [.int i,.int j]=>if(decide (-(2 ^ 62)<=i)&&decide (i<2 ^ 62))&&(decide (-(2 ^ 62)<=j)&&decide (j<2 ^ 62)) then some (qp i (j-i).toNat) else none
 | _=>none
theorem y4{a:Expr}{fa:FA}{p:Pos}(hg:Gl X "range")(hm:X.mg "range" = none)(ha:PA X [a] (tDA X.K fa))(hs:starEach [a] X.env=[(false,eval a X.env)]:=by rfl): PI X tg (.Call (.Name "range" p) [a] [] pos) (tDI X.K (iR1 fa)):=
 q7k (qbw hg hm ha hs) fun σ H R ⟨F0,H0,F, ρ,ds,r,hf,q⟩=>by
  obtain⟨es,h1,h2⟩:=g0.mp hf;refine⟨F0,H0,F, ρ,es,r,h1,fun vs F' H' g' r'=>?_⟩
  split at h2
  ·rename_i j
   split at h2
   ·rename_i z
    cases h2;obtain⟨x,t,rfl,h3,h4⟩:=r'.cons_inv;cases h4.nil_inv;obtain⟨z1,z2⟩:=yu z;exact⟨j,by rw [rep_int.mp h3],z1,z2,q _ F' H' g' (q66 0 _)⟩
   ·cases h2
  ·cases h2
theorem qci{a b:Expr}{fa:FA}{p:Pos}(hg:Gl X "range")(hm:X.mg "range" = none)(ha:PA X [a,b] (tDA X.K fa))(hs:starEach [a,b] X.env=[(false,eval a X.env),(false,eval b X.env)]:=by rfl)(hs2:starEach [b] X.env=[(false,eval b X.env)]:=by rfl):
  PI X tg (.Call (.Name "range" p) [a,b] [] pos) (tDI X.K (iR2 fa)):=
 q7k (qbx hg hm ha hs hs2) fun σ H R ⟨F0,H0,F, ρ,ds,r,hf,q⟩=>by
  obtain⟨es,h1,h2⟩:=g0.mp hf;refine⟨F0,H0,F, ρ,es,r,h1,fun vs F' H' g' r'=>?_⟩
  split at h2
  ·rename_i i j
   split at h2
   ·rename_i z
    cases h2;obtain⟨x,t,rfl,h3,h4⟩:=r'.cons_inv;obtain⟨x2,t2,rfl,h5,h6⟩:=h4.cons_inv;cases h6.nil_inv;rw [mj] at z;obtain⟨z1,z2⟩:=yu z.1;obtain⟨z3,z4⟩:=yu z.2;exact⟨i,j,by rw [rep_int.mp h3,rep_int.mp h5],⟨z1,z2,z3,z4⟩,q _ F' H' g' (q66 _ _)⟩
   ·cases h2
  ·cases h2
def runFor(b:FB)(body:FS): List D->Rho->Option (Fl×Rho)
 | [], ρ =>some (.nx, ρ)
 | d :: ds, ρ =>(b d ρ).bind fun ρ1=>(body ρ1).bind fun r=>match r with
  | (.nx, ρ2)=>runFor b body ds ρ2
  | (.ct, ρ2)=>runFor b body ds ρ2
  | (.bk, ρ2)=>some (.nx, ρ2)
  | (.rt v, ρ2)=>some (.rt v, ρ2)
def q3w(it:FA)(b:FB)(body:FS): FS:=fun ρ =>(it ρ).bind fun ds=>runFor b body ds ρ
theorem q7l{iter:Expr}{body:List Stmt}{it:FA}{b:FB}{u:FS}(hp:PassesOwn (model X.prog X.w) X.A X.env X.xe)(hc:X.calm=true)(hi:PI X tg iter (tDI X.K it))(hg:PG X tg (tDG X.K b))(hb:PSs X body (tDS X.K u))
  (hs:∀x,foldedSetIterable iter X.env x=pure x:=by intro _;rfl):PS X (.For tg iter body [] pos) (tDS X.K (q3w it b u)):=km (q78 hp hc hi hg hb hs) fun D σ H ⟨F0,H0,F, ρ,fl, ρ',r,hf,q⟩=>by
 obtain⟨ds,h1,h2⟩:=g0.mp hf;refine⟨F0,H0,F, ρ,ds,r,h1,fun J F1 H1 g1 itd=>?_⟩;refine⟨fun i m σ H=>m=ds.length-i/\i<=ds.length/\∃F' ρi,Same F1 F'/\RS X.K F0 H0 F' H σ ρi/\runFor b u (ds.drop i) ρi=some (fl, ρ'),⟨ds.length,by simp,p0 _,F1, ρ,.refl _,r.grow g1,by simpa using h2⟩,?_⟩
 rintro i m σ H ⟨rfl,hi,F', ρi,s1,r1,h3⟩
 by_cases hlt:i<ds.length
 ·have hd:ds.drop i=ds[i] :: ds.drop (i+1):=u3 hlt
  rw [hd] at h3;obtain⟨ρ1,h4,h5⟩:=g0.mp h3;obtain⟨⟨fl1, ρ2⟩,h6,h7⟩:=g0.mp h5;refine .inr ⟨itd.go i F' H s1 r1.fh hlt,fun σ' H'=>∃F',Same F1 F'/\RS X.K F0 H0 F' H' σ' ρ2/\runFor b u (ds.drop (i+1)) ρ2=some (fl, ρ'),fun σ' H' ⟨F',z1,z2,z3⟩=>⟨ds.length-(i+1),by omega,rfl,hlt,F', ρ2,z1,z2,z3⟩,fun x H' y=>?_⟩;obtain⟨F2,g2,r2⟩:=itd.yld i ds[i] F' H x H' s1 r1.fh (by simp [hlt]) y;refine⟨F0,H0,F2, ρi,ds[i], ρ1,r1.grow g2,r2,h4,fun σ' r3=>⟨F0,H0,F2, ρ1,fl1, ρ2,r3,h6,?_⟩⟩;cases fl1 with
  | nx=>exact fun σ2 F3 H3 s3 r4=>⟨F3,(s1.trans g2.ff).trans s3,r4,h7⟩
  | ct=>exact fun σ2 F3 H3 s3 r4=>⟨F3,(s1.trans g2.ff).trans s3,r4,h7⟩
  | bk=>cases h7;exact fun σ2 F3 H3 s3 r4=>q σ2 F3 H3 ((g1.ff.trans (s1.trans g2.ff)).trans s3) r4
  | rt d=>cases h7;exact q
 ·have e:i=ds.length:=by omega
  subst e;rw [g11] at h3;cases h3;exact .inl ⟨itd.stop _ F' H s1 r1.fh (gm _),q σ F' H (g1.ff.trans s1) r1⟩
end
def qiq:Option B->Option B
 | some (.fz d)=>some (.fz d)
 | _=>none
def v3(cap:List (Option Nat))(ρ : Rho): Rho:=cap.map fun o=>o.bind fun j=>qiq (ρ[j]?).join
structure Sub(ρ ρ':Rho): Prop where
 len : ρ.length = ρ'.length
 sub:∀(i:Nat) (b:B), ρ[i]? = some (some b) -> ρ'[i]? = some (some b)
theorem RS.weak{K:Frag}{F0 H0 F H:Hp}{σ : St}{ρ ρ':Rho}(r:RS K F0 H0 F H σ ρ')(s:Sub ρ ρ'): RS K F0 H0 F H σ ρ where
 t0:=r.t0
 g:=r.g
 len:=by rw [s.len];exact r.len
 fz:=fun i d e=>r.fz i d (s.sub i _ e)
 ow:=fun i ds e=>r.ow i ds (s.sub i _ e)
 dj:=fun i j ds es a h e1 e2=>r.dj i j ds es a h (s.sub i _ e1) (s.sub j _ e2)
 od:=fun i kvs e=>let⟨a,bs,e1,e2,e3⟩:=r.od i kvs (s.sub i _ e); ⟨a,bs,e1,e2,fun j es b h=>e3 j es b (s.sub j _ h)⟩
 o1:=fun i j k1 k2 e1 e2=>r.o1 i j k1 k2 (s.sub i _ e1) (s.sub j _ e2)
def we(ρ : Rho): Prop:=∀(i:Nat) (b:B), ρ[i]? = some (some b)->∃d,b=.fz d
theorem q1i{ρ : Rho}(no:we ρ){i:Nat}{ds:List D}(h : ρ[i]? = some (some (.ow ds))): False:=let⟨_,e⟩:=no i _ h;nomatch e
theorem q1j{ρ : Rho}(no:we ρ){i:Nat}{ds}(h : ρ[i]? = some (some (.od ds))): False:=let⟨_,e⟩:=no i _ h;nomatch e
theorem xa(cap:List (Option Nat))(ρ : Rho): we (v3 cap ρ):=fun i ds h=>by
 unfold v3 at h;rw [gv] at h;cases q:cap[i]? with
 | none=>rw [q] at h;cases h
 | some o=>
  rw [q] at h;cases o with
  | none=>cases h
  | some j=>
   simp only [m6,g6,g0p] at h;generalize (ρ[j]?).join=z at h;cases z with
   | none=>cases h
   | some b=>cases b with
    | fz d=>cases h;exact⟨d,rfl⟩
    | ow _=>cases h
    | od _=>cases h
theorem qir{K:Frag}{F0 H0 F H:Hp}{σ : St}{ρ : Rho}(cap:List (Option Nat))(r:RS K F0 H0 F H σ ρ): RS K F H F H (q5c cap σ) (v3 cap ρ) where
 t0:=⟨r.tab,r.tabF⟩
 g:=.refl r.fh
 len:=by unfold q5c v3;rw [g7,g7]
 fz := fun i d h=>by
  unfold v3 at h;rw [gv] at h;cases q:cap[i]? with
  | none=>rw [q] at h;cases h
  | some o=>
   rw [q] at h;cases o with
   | none=>cases h
   | some j=>
    simp only [m6,g6,g0p] at h;have e : ρ[j]? = some (some (.fz d)):=by
     cases z : ρ[j]? with
     | none=>rw [z] at h;cases h
     | some b=>
      rw [z] at h;cases b with
      | none=>cases h
      | some b=>cases b with
       | fz d'=>cases h;rfl
       | ow _=>cases h
       | od _=>cases h
    obtain⟨v,e1,e2⟩:=r.fz j d e;refine⟨v,?_,e2⟩;unfold q5c;rw [gv,q];simp only [m6,g6,e1,uv]
 ow:=fun i ds h=>(q1i (xa cap ρ) h).elim
 dj:=fun i j ds es a _ h=>(q1i (xa cap ρ) h).elim
 od:=fun i ds h=>(q1j (xa cap ρ) h).elim
 o1:=fun i j ds es h=>(q1j (xa cap ρ) h).elim
theorem RS.other{K:Frag}{F0 H0 F H:Hp}{σ : St}{ρ : Rho}(r:RS K F0 H0 F H σ ρ)(no:we ρ){p:Addr}{o:HO}(h1:F p=none)(h2:H0 p=none)(h3:H p=none\/∃xs,H p=some (.lst xs)): RS K F0 H0 F (upd H p o) σ ρ where
 t0:=r.t0
 g :=⟨r.g.ff,⟨fun b u e=>by rw [ql (fun z=>by subst z;rw [h2] at e;cases e)];exact r.g.hh.lst b u e,fun b u e=>by rw [ql (fun z=>by subst z;rw [h2] at e;cases e)];exact r.g.hh.ext b u e,fun {b} e=>by
   by_cases z:b=p
   ·subst z;exact h2
   ·rw [ql z] at e;exact r.g.hh.free e,fun t=>(r.g.hh.tb t).upd h3,fun b u e=>by rw [ql (fun z=>by subst z;rw [h2] at e;cases e)];exact r.g.hh.dk b u e⟩,fun b u e=>by rw [ql (fun z=>by subst z;rw [h1] at e;cases e)];exact r.g.fh b u e,r.g.nw⟩
 len:=r.len
 fz:=r.fz
 ow:=fun i ds h=>(q1i no h).elim
 dj:=fun i j ds es a _ h=>(q1i no h).elim
 od:=fun i ds h=>(q1j no h).elim
 o1:=fun i j ds es h=>(q1j no h).elim
theorem q26{F H F' H':Hp}{p:Addr}(g:Grow F H F' H')(h1:F p=none){o:HO}(h2:H p=some o): F' p=none:=by
 cases q:F' p with
 | none=>rfl
 | some u=>
  rcases g.nw p (by rw [q];simp) with z|z
  ·exact absurd h1 z
  ·rw [h2] at z;cases z
def zo(b:FB)(c:FT)(f:FE)(ρ : Rho): List D->Option (List D)
 | []=>some []
 | d :: ds=>(b d ρ).bind fun ρ1=>(c ρ1).bind fun t=>if t then(f ρ1).bind fun y=>(zo b c f ρ ds).map fun ys=>y :: ys else zo b c f ρ ds
def z7:FT:=fun _=>some true
def zf(it:FA)(cap:List (Option Nat))(b:FB)(c:FT)(f:FE): FA:=fun ρ =>(it ρ).bind fun ds=>if ds.length<=lim then zo b c f (v3 cap ρ) ds else none
def q4l(b:FB)(cap:List (Option Nat)): Prop:=∀ ρ d ρ',b d (v3 cap ρ)=some ρ'->Sub (v3 cap ρ) ρ'/\we ρ'
section
variable{X:Cx}
theorem qe8{ifs:List Expr}{t t':TT}(h:q0t X ifs t)(i:∀ σ H Q,t' σ H Q->t σ H Q): q0t X ifs t':=fun pins s σ H Q I q=>h pins s σ H Q I (i σ H Q q)
theorem j4:q0t X [] (tDT X.K z7):=qe8 qdy fun σ H Q ⟨F0,H0,F, ρ,b,r,hf,q⟩=>by cases hf;exact q F H (.refl r.fh)
theorem qcj{K:Frag}{it:FA}{cap:List (Option Nat)}{b:FB}{c:FT}{f:FE}{σ : St}{H:Hp}{Q:VK}(fr:q4l b cap)(h:tL K (zf it cap b c f) σ H Q): qar (tDI K it) cap (tDG K b) (tDT K c) (tD K f) σ H Q:=by
 obtain⟨F0,H0,F, ρ,zs,r,hf,q⟩:=h;obtain⟨ds,h1,h2⟩:=g0.mp hf;have hlim:ds.length<=lim:=Decidable.byContradiction fun z=>by rw [mf z] at h2;cases h2
 rw [gu hlim] at h2;refine⟨F0,H0,F, ρ,ds,r,h1,fun J F1 H1 g1 itd p hp=>?_⟩;have rc:=qir cap (r.grow g1);have hF1:F1 p=none:=g1.fh.free hp;refine⟨fun i m σ H=>m=ds.length-i/\i<=ds.length/\∃F' xs ys us,Same F1 F'/\RS K F1 H1 F' H σ (v3 cap ρ)/\H p=some (.lst xs)/\F' p=none/\RepL K F' ys xs/\zo b c f (v3 cap ρ) (ds.drop i)=some us/\ys++us=zs/\ys.length<=i,
  ⟨ds.length,by simp,p0 _,F1,[],[],zs,.refl _,rc.other (xa cap ρ) hF1 hp (.inl hp),qw,hF1,.nil,by simpa using h2,rfl,gm _⟩,?_⟩
 rintro i m σ' H' ⟨rfl,hi,F',xs,ys,us,s1,r1,hl,hn,ry,h3,h4,hyi⟩
 by_cases hlt:i<ds.length
 ·have hd:ds.drop i=ds[i] :: ds.drop (i+1):=u3 hlt
  rw [hd] at h3;obtain⟨ρ1,h5,h3⟩:=g0.mp h3;obtain⟨t,h6,h3⟩:=g0.mp h3;obtain⟨sb,no1⟩:=fr ρ _ _ h5;refine .inr ⟨itd.go i F' H' s1 r1.fh hlt,fun x H'' y=>?_⟩;obtain⟨F2,g2,r2⟩:=itd.yld i ds[i] F' H' x H'' s1 r1.fh (by simp [hlt]) y;refine⟨F1,H1,F2,v3 cap ρ,ds[i], ρ1,r1.grow g2,r2,h5,fun σ2 r3=>⟨F1,H1,F2, ρ1,t,r3,h6,fun F3 H3 g3=>?_⟩⟩;have r4:=r3.grow g3;have hl2:=g2.hh.lst _ _ hl;have hn2:=q26 g2 hn hl;have hl3:=g3.hh.lst _ _ hl2;have hn3:=q26 g3 hn2 hl2;cases t with
  | false=>
   rw [mf gx] at h3;exact ql3 ⟨ds.length-(i+1),by omega,rfl,hlt,F3,xs,ys,us,(s1.trans g2.ff).trans g3.ff,r4.weak sb,hl3,hn3,ry.mono (g2.ff.trans g3.ff),h3,h4,Nat.le_succ_of_le hyi⟩
  | true=>
   rw [gu rfl] at h3;obtain⟨yd,h7,h3⟩:=g0.mp h3;obtain⟨us',h8,h9⟩:=gq.mp h3;refine ql4 ⟨F1,H1,F3, ρ1,yd,r4,h7,fun v F4 H4 g4 r5=>?_⟩;have hl4:=g4.hh.lst _ _ hl3;have hn4:=q26 g4 hn3 hl3;have ss:Same F' F4:=(g2.ff.trans g3.ff).trans g4.ff;refine⟨xs,hl4,q25 (by have:=ry.length;omega),ds.length-(i+1),by omega,rfl,hlt,F4,xs++[v],ys++[yd],us',(s1.trans ss),?_,qw,hn4,(ry.mono ss).append (.cons r5 .nil),h8,?_,?_⟩
   ·exact((r4.grow g4).weak sb).other (xa cap ρ) hn4 hp (.inr ⟨_,hl4⟩)
   ·rw [mz,List.singleton_append,h9];exact h4
   ·rw [gh,gs];omega
 ·have e:i=ds.length:=by omega
  subst e;rw [g11] at h3;cases h3;rw [t4] at h4;subst h4;have gg:Grow F1 H1 F' H':=r1.g;exact .inl ⟨itd.stop _ F' H' s1 r1.fh (gm _),q p xs F' H' (g1.trans gg) hn (g1.hh.free hp) hl ry⟩
variable{N':List Str}{scope:Scope}{cap:List (Option Nat)}{tg iter elt:Expr}{ifs:List Expr}{it:FA}{b:FB}{c:FT}{f:FE}{pos:Pos}
theorem zx(hc:X.calm=true)(co:CapOk X N' scope cap)(fr:q4l b cap)(hi:PI X tg iter (tDI X.K it))
  (hg:∀cl C s₀ H₀ fp,PG (zu X N' scope cl C s₀ H₀ fp) tg (tDG X.K b)) (hcs:∀cl C s₀ H₀ fp,q0t (zu X N' scope cl C s₀ H₀ fp) ifs (tDT X.K c)) (he:∀cl C s₀ H₀ fp,PE (zu X N' scope cl C s₀ H₀ fp) elt (tD X.K f))
  (hs:∀x,foldedSetIterable iter X.env x=pure x:=by intro _;rfl):PE X (.ListComp elt [⟨tg,iter,ifs,0⟩] scope pos) (tL X.K (zf it cap b c f)):=
 ze (qg8 hc co hi hg hcs he hs) fun σ H Q h=>qcj fr h
theorem q9s{i:Nat}{x:Str}{px pe:Pos}(hc:X.calm=true)(hN:X.N.Nodup)(hx0:X.N[i]? = some x)(hx:X.env.scope.names.lookup x=some .local)(co:CapOk X N' scope cap)(fr:q4l b cap)(hi:PI X tg iter (tDI X.K it))
  (hg:∀cl C s₀ H₀ fp,PG (zu X N' scope cl C s₀ H₀ fp) tg (tDG X.K b)) (hcs:∀cl C s₀ H₀ fp,q0t (zu X N' scope cl C s₀ H₀ fp) ifs (tDT X.K c)) (he:∀cl C s₀ H₀ fp,PE (zu X N' scope cl C s₀ H₀ fp) elt (tD X.K f))
  (hsw:swapsWith (.ListComp elt [⟨tg,iter,ifs,0⟩] scope pe) (some (.Name x px)) pos.line X.env=pure true:=by rfl)
  (hs:∀x,foldedSetIterable iter X.env x=pure x:=by intro _;rfl):PS X (.Assign [.Name x px] (.ListComp elt [⟨tg,iter,ifs,0⟩] scope pe) pos) (tDS X.K (q0c i (zf it cap b c f))):=
 km (qas hc hN hx0 hx co hi hg hcs he hsw hs) fun D σ H h=>qcj fr (qfh h)
end
theorem q7m{cap:List (Option Nat)}{ρ : Rho}{i:Nat}(h:cap[i]? = some none): (v3 cap ρ)[i]? = some none:=by
 unfold v3;rw [gv,h];rfl
theorem q9t{ρ ρ':Rho}{i:Nat}{b:Option B}(s:Sub ρ ρ')(h : ρ[i]? = some none): Sub ρ (ρ'.set i b):=
 ⟨by rw [mr];exact s.len,fun j c e=>by
  by_cases q:j=i
  ·subst q;rw [h] at e;cases e
  ·rw [g8 (m5 q)];exact s.sub j c e⟩
theorem q67{ρ : Rho}{i:Nat}{d:D}(h:we ρ): we (ρ.set i (some (.fz d))):=fun j ds e=>by
 by_cases q:j=i
 ·subst q
  obtain⟨z,_⟩:=qm e;cases z;exact⟨d,rfl⟩
 ·rw [g8 (m5 q)] at e;exact h j ds e
theorem Sub.refl(ρ : Rho): Sub ρ ρ :=⟨rfl,fun _ _ h=>h⟩
theorem zq{cap:List (Option Nat)}{i:Nat}(h:cap[i]? = some none): q4l (bN i) cap:=fun ρ d ρ' e=>by
 cases e;exact⟨q9t (.refl _) (q7m h),q67 (xa cap ρ)⟩
def q4m(bs:FBs)(cap:List (Option Nat)): Prop:=∀ ρ ds ρ1 ρ',Sub (v3 cap ρ) ρ1->we ρ1->bs ds ρ1=some ρ'->Sub (v3 cap ρ) ρ'/\we ρ'
theorem vf{cap:List (Option Nat)}: q4m xg cap:=fun ρ ds ρ1 ρ' s n e=>by
 unfold xg at e
 split at e
 ·cases e;exact⟨s,n⟩
 ·cases e
theorem zi{cap:List (Option Nat)}{i:Nat}{bs:FBs}(h:cap[i]? = some none)(t:q4m bs cap): q4m (za (bN i) bs) cap:=fun ρ ds ρ1 ρ' s n e=>by
 cases ds with
 | nil=>cases e
 | cons d ds=>exact t ρ ds _ ρ' (q9t s (q7m h)) (q67 n) e
theorem y6{cap:List (Option Nat)}{n:Nat}{bs:FBs}(t:q4m bs cap): q4l (xh n bs) cap:=fun ρ d ρ' e=>by
 cases d <;> simp only [xh] at e <;> first|(cases e;done)|skip
 split at e
 ·exact t ρ _ _ ρ' (.refl _) (xa cap ρ) e
 ·cases e
def qis (outer:List (Str×NameKind)) (N N':List Str) (scope:Scope) (cap:List (Option Nat)):Bool:=
 scope.names.all (fun y=> !(y.2 == .cell))&&(scope.names.all (fun y=> !(y.2 == .local) || (scope.names.lookup y.1==some .local))&&(scope.names.all (fun y=> !(y.2 == .free) || (outer.lookup y.1==some .cell) || (outer.lookup y.1==some .free)) &&
  (cap.length==N'.length&&(List.range cap.length).all fun i=>match(cap[i]?).join with
   | none=>true
   | some j=>match N'[i]? with
    | none=>false
    | some x=>N[j]? == some x&&scope.names.lookup x==some .free)))
theorem zd{X:Cx}{N':List Str}{scope:Scope}{cap:List (Option Nat)}(hk:scope.kind=.function)(h:qis X.env.scope.names X.N N' scope cap=true): CapOk X N' scope cap:=by
 unfold qis at h;simp only [mj,List.all_eq_true] at h;obtain⟨h1,h2,h3,h4,h5⟩:=h;refine⟨hk,fun y hy e=>?_,fun y hy e=>?_,fun y hy e=>?_,by simpa using h4,fun i j e=>?_⟩
 ·have:=h1 y hy;rw [e] at this;cases this
 ·have:=h2 y hy;rw [e] at this;simpa using this
 ·have:=h3 y hy
  rw [e] at this;simp only [beq_self_eq_true,Bool.not_true,Bool.false_or,g06,g0x] at this;exact this
 ·have hi:i<cap.length:=(mq.mp e).1
  have:=h5 i (n0.mpr hi);rw [e] at this;simp only [uv] at this
  split at this
  ·cases this
  ·rename_i x hx
   simp only [mj,g0x] at this;exact⟨x,hx,this.1,this.2⟩
section
variable{X:Cx}{e:Expr}{es:List Expr}{pos:Pos}{f g:FE}{fa:FA}
inductive Ty where
 | int|bool|tuple|list|str|dict
def Ty.name:Ty->String
 | .int=>"int" | .bool=>"bool" | .tuple=>"tuple" | .list=>"list" | .str=>"str" | .dict=>"dict"
def qy:Ty->D->Bool
 | .int,.int _=>true
 | .int,.bl _=>true
 | .bool,.bl _=>true
 | .tuple,.tup _=>true
 | .list,.lst _=>true
 | .str,.str _=>true
 | .dict,.dct _ _=>true
 | .dict,.dtt _ _=>true
 | _,_=>false
theorem qe9{prog:Program}{w:World}{A:Around}{E:Value->Shared->Prop}{s:Shared}{Q:Value->Shared->Prop}{K:Frag}{T:String}{b:Bool}(hk:K.In s.heap)(h:∀tk,Q (.bool b) {s with toks:=tk})(hT:PySem.W.kitOne K (.type "NoneType") (.type T)=some b):
  wpAny (model prog w) A (call (.builtin "isinstance") [.none,.type T]) Q E s:=g1d PySem.W.kitx_none hk True.intro hT (fun z=>nomatch z) h
theorem qea(T:Ty): zm X (.builtin "isinstance") (fun xs H Q=>∃x F d,xs=[x,.ty T.name]/\Same F H/\Rep X.K F d x/\Q (.bl (qy T d)) H):=by
 intro pins s σ H xs us Q I r h;obtain⟨x,F,d,rfl,fh,rd,q⟩:=h;obtain⟨u,w',rfl,rx,rt⟩:=r.two;obtain rfl:w'=Value.type T.name:=rt;have fin:∀ {b:Bool},Q (.bl b) H->EP X pins σ Q (.bool b) s:=fun q=>⟨.bl _,H,I,rfl,q⟩
 have fin1:∀ {b:Bool},Q (.bl b) H->EP X pins σ Q (.bool b) {s with toks:=s.toks+1}:=fun q=>⟨.bl _,H,I.tok _,rfl,q⟩
 cases d with
 | non=>
  cases rep_non.mp rd;cases rx;cases T <;> exact qe9 I.kIn (fun tk=>⟨.bl _,H,I.tok _,rfl,q⟩) (by rfl)
 | bl b=>
  cases rep_bl.mp rd;cases rx;cases T
  ·exact IsiPair.bool_int (fin q)
  ·exact IsiPair.bool_bool (fin q)
  ·exact IsiPair.bool_tuple (fin1 q)
  ·exact IsiPair.bool_list (fin1 q)
  ·exact IsiPair.bool_str (fin1 q)
  ·exact IsiPair.bool_dict (fin1 q)
 | int i=>
  cases rep_int.mp rd;obtain⟨t,rfl⟩:=rx;cases T
  ·exact IsiPair.int_int (fin q)
  ·exact IsiPair.int_bool (fin1 q)
  ·exact IsiPair.int_tuple (fin1 q)
  ·exact IsiPair.int_list (fin1 q)
  ·exact IsiPair.int_str (fin1 q)
  ·exact IsiPair.int_dict (fin1 q)
 | str z=>
  cases rep_str.mp rd;obtain⟨t,rfl⟩:=rx;cases T
  ·exact IsiPair.str_int (fin1 q)
  ·exact IsiPair.str_bool (fin1 q)
  ·exact IsiPair.str_tuple (fin1 q)
  ·exact IsiPair.str_list (fin1 q)
  ·exact IsiPair.str_str (fin q)
  ·exact IsiPair.str_dict (fin1 q)
 | tup ds=>
  obtain⟨a,ys,rfl,h1,h2⟩:=rep_tup.mp rd;cases rx;obtain⟨its,_,⟨o,ho,hc,_⟩,_⟩:=I.tuple (qr fh h1);cases T
  ·exact IsiPair.tuple_int ho hc (fin1 q)
  ·exact IsiPair.tuple_bool ho hc (fin1 q)
  ·exact IsiPair.tuple_tuple ho hc (fin q)
  ·exact IsiPair.tuple_list ho hc (fin1 q)
  ·exact IsiPair.tuple_str ho hc (fin1 q)
  ·exact IsiPair.tuple_dict ho hc (fin1 q)
 | lst ds=>
  obtain⟨a,ys,rfl,h1,h2⟩:=rep_lst.mp rd;cases rx;obtain⟨its,_,⟨o,n,ho,hc,_⟩,_⟩:=I.list (fh.seq h1);cases T
  ·exact IsiPair.list_int ho hc (fin1 q)
  ·exact IsiPair.list_bool ho hc (fin1 q)
  ·exact IsiPair.list_tuple ho hc (fin1 q)
  ·exact IsiPair.list_list ho hc (fin q)
  ·exact IsiPair.list_str ho hc (fin1 q)
  ·exact IsiPair.list_dict ho hc (fin1 q)
 | dct ks vs=>
  obtain⟨a,ys,rfl,h1,h2,h3⟩:=rep_dct.mp rd;cases rx;obtain⟨_,_,vs',_,o,es',ep,ho,hc,_⟩:=(show ObjOk X.prog X.w H s.heap a _ from I.hok a _ (fh _ _ h1))
  cases T
  ·exact IsiPair.dict_int ho hc.1 (fin1 q)
  ·exact IsiPair.dict_bool ho hc.1 (fin1 q)
  ·exact IsiPair.dict_tuple ho hc.1 (fin1 q)
  ·exact IsiPair.dict_list ho hc.1 (fin1 q)
  ·exact IsiPair.dict_str ho hc.1 (fin1 q)
  ·exact IsiPair.dict_dict ho hc.1 (fin q)
 | dtt ks vs=>
  obtain⟨a,xs',ys,ep,rfl,h1,_⟩:=rep_dtt.mp rd;cases rx;obtain⟨⟨o,es',ho,hc,_⟩,_,_⟩:=(show ObjOk X.prog X.w H s.heap a _ from I.hok a _ (fh _ _ h1))
  cases T
  ·exact IsiPair.dict_int ho hc.1 (fin1 q)
  ·exact IsiPair.dict_bool ho hc.1 (fin1 q)
  ·exact IsiPair.dict_tuple ho hc.1 (fin1 q)
  ·exact IsiPair.dict_list ho hc.1 (fin1 q)
  ·exact IsiPair.dict_str ho hc.1 (fin1 q)
  ·exact IsiPair.dict_dict ho hc.1 (fin q)
 | obj x=>
  obtain⟨a,dx,C,rfl,h1,_,c1,c2,c3,c4,c5,c6,c7⟩:=rep_obj.mp rd;cases rx;obtain⟨mA,O,_⟩:=qg1 I.hok (fh _ _ h1);obtain⟨od,J,_⟩:=O.look;cases T <;> exact g1d (PySem.W.kitx_own c1 c2 c3 c4 c5 c6) I.kIn J (c7 _ (by decide)) (fun z=>nomatch z) (fun tk=>⟨.bl _,H,I.tok _,rfl,q⟩)
 | exc x f=>
  obtain⟨a,C,rfl,⟨od,h1,_⟩,_,c1,c2⟩:=rep_exc.mp rd;cases rx;obtain⟨J,_,_⟩:=(show ObjOk X.prog X.w H s.heap a _ from I.hok a _ (fh _ _ h1))
  cases T <;> exact g1d (qe3 c1) I.kIn J (c2 _ (by decide)) (fun z=>nomatch z) (fun tk=>⟨.bl _,H,I.tok _,rfl,q⟩)
def q5d(T:Ty)(f:FE): FE:=fun ρ =>(f ρ).map fun d=>.bl (qy T d)
theorem qeb:bootBuiltins "isinstance" = some (.builtin "isinstance"):=by decide +kernel
theorem qck{x:Str}{p px:Pos}(T:Ty)(hg:Gl X "isinstance")(hm:X.mg "isinstance" = none)(hgT:Gl X x)(hmT:X.mg x=none)(hvT:bootBuiltins x=some (.type T.name))(ha:PE X e (tD X.K f))
  (hnT:x≠"__name__" :=by decide) (hdT:(x==("__debug__" : Str))=false:=by decide) (he2:starEach [e,.Name x px] X.env=(false,eval e X.env) :: starEach [.Name x px] X.env:=by rfl) :
  PE X (.Call (.Name "isinstance" p) [e,.Name x px] [] pos) (tD X.K (q5d T f)):=
 ze (q04 (qea T) hg hm qeb (jt ha (jt (qft (v:=.ty T.name) hgT hmT hvT rfl hnT hdT) vt) he2) (by decide) (by decide) he2 rfl) fun σ H Q ⟨F0,H0,F, ρ,d,r,hf,q⟩=>by
  obtain⟨d',h1,h2⟩:=gq.mp hf;subst h2;exact⟨F0,H0,F, ρ,d',r,h1,fun v F' H' g' r'=>⟨v,F',d',rfl,g'.fh,r',q _ F' H' g' (rep_bl.mpr rfl)⟩⟩
def q32:List D->Option (List Int)
 | []=>some []
 | .int i :: r=>(q32 r).map fun is=>i :: is
 | _ :: _=>none
def q17:List D->Option (List Bool)
 | []=>some []
 | .bl i :: r=>(q17 r).map fun is=>i :: is
 | _ :: _=>none
theorem q4n:∀ {ds:List D} {ns:List Int},q32 ds=some ns->ds=ns.map D.int
 | [],ns,h=>by cases h;rfl
 | d :: r,ns,h=>by
  cases d <;> simp only [q32] at h <;> first|(cases h;done)|skip
  obtain⟨is,h1,h2⟩:=gq.mp h;subst h2;rw [q4n h1];rfl
omit [Lam] [Pin] in
theorem q68:∀(ns:List Int),q32 (ns.map D.int)=some ns
 | []=>rfl
 | n :: r=>by simp only [gy,q32,q68 r,m6]
theorem q3h:∀ {ds:List D} {bs:List Bool},q17 ds=some bs->ds=bs.map D.bl
 | [],ns,h=>by cases h;rfl
 | d :: r,ns,h=>by
  cases d <;> simp only [q17] at h <;> first|(cases h;done)|skip
  obtain⟨is,h1,h2⟩:=gq.mp h;subst h2;rw [q3h h1];rfl
omit [Lam] [Pin] in
theorem q4o:∀(ns:List Bool),q17 (ns.map D.bl)=some ns
 | []=>rfl
 | n :: r=>by simp only [gy,q17,q4o r,m6]
theorem RepL.bools{K:Frag}{H:Hp}: ∀ {bs:List Bool} {xs:List V},RepL K H (bs.map D.bl) xs->xs=bs.map V.bl
 | [],xs,h=>h.nil_inv
 | b :: bs,xs,h=>by
  obtain⟨x,r,rfl,h1,h2⟩:=h.cons_inv;rw [rep_bl.mp h1,RepL.bools h2];rfl
def o1L(z:List D->Option D): List D->Option D
 | [.lst ds]=>z ds
 | _=>none
theorem qec{z:List D->Option D}{es:List D}{d:D}(h:o1L z es=some d): ∃ds,es=[.lst ds]/\z ds=some d:=by
 unfold o1L at h
 split at h
 ·exact⟨_,rfl,h⟩
 ·cases h
theorem rep1{K:Frag}{F:Hp}{d:D}{xs:List V}(h:RepL K F [d] xs): ∃x,xs=[x]/\Rep K F d x:=by
 obtain⟨x,r,rfl,h1,h2⟩:=h.cons_inv;cases h2.nil_inv;exact⟨x,rfl,h1⟩
abbrev q5e:List D->Option D:=o1L fun ds=>(q17 ds).map fun bs=>.bl (bs.all id)
theorem q4p:∀ {bs:List Bool} {us:List Value},Vals (bs.map V.bl) us->us=bs.map Value.bool
 | [],us,h=>by cases h;rfl
 | b :: bs,us,h=>by
  rw [gy] at h;cases h with
  | cons r t=>
   cases(show _=Value.bool b from r);rw [q4p t];rfl
theorem q7n(hc:X.calm=true): zm X (.builtin "all") (rC X.K q5e):=by
 intro pins s σ H xs us Q I r h;obtain⟨F,ds,d,fh,rl,ho,q⟩:=h;obtain⟨es,rfl,h1⟩:=qec ho;obtain⟨bs,h2,h3⟩:=gq.mp h1;subst h3;cases q3h h2;obtain⟨x,rfl,rx⟩:=rep1 rl;obtain⟨u,rfl,ru⟩:=r.one;obtain⟨a,ys,rfl,k1,k2⟩:=rep_lst.mp rx;cases ru;cases k2.bools;obtain⟨its,rv,pl,_⟩:=I.list (fh.seq k1);cases q4p rv;have hlt:a<s.heap.objs.size:=by obtain⟨_,e,_⟩:=pl.isList;exact gp e
 refine call_all_walk (g0q pl.isList ?_);refine⟨s.heap.objs.size,[s.heap.objs.size,a],[s.heap.objs.size],(bs.map Value.bool).toArray.size,_,_,fun i=>(bs[i]?).getD true,rfl,Walks.list (A:=X.A.in1) (I.ok.hd hc) _ a (mh hlt) (bs.map Value.bool).toArray,
  ⟨⟨_,m4 _ rfl,rfl,rfl⟩,pl.isList.push _⟩,fun i v s' Q' E' hP hQ=>?_,fun h' tk hk=>?_⟩
 ·have hP':(bs.map Value.bool)[i]? = some v:=by simpa using hP
  rw [gv] at hP';cases z:bs[i]? with
  | none=>rw [z] at hP';cases hP'
  | some b=>
   rw [z] at hP';cases hP';simp only [z,Option.getD_some] at hQ;exact p7 hQ
 ·have e:((List.range (bs.map Value.bool).toArray.size).all fun i=>(bs[i]?).getD true)=bs.all id:=by
   rw [gc,g7];exact LSm.range_all bs
  rw [e];exact⟨.bl _,H,I.kept (LSm.kept_iter hk),rfl,q _ F H (.refl fh) (rep_bl.mpr rfl)⟩
theorem boot_all:bootBuiltins "all" = some (.builtin "all"):=by decide +kernel
theorem boot_min:bootBuiltins "min" = some (.builtin "min"):=by decide +kernel
theorem boot_max:bootBuiltins "max" = some (.builtin "max"):=by decide +kernel
theorem zr:bootBuiltins "len" = some (.builtin "len"):=by decide +kernel
theorem boot_tuple:bootBuiltins "tuple" = some (.type "tuple"):=by decide +kernel
theorem boot_int:bootBuiltins "int" = some (.type "int"):=by decide +kernel
theorem boot_str:bootBuiltins "str" = some (.type "str"):=by decide +kernel
def o2I(z:Int->Int->Int): List D->Option D
 | [.int i,.int j]=>some (.int (z i j))
 | _=>none
theorem q7o{z:Int->Int->Int}{es:List D}{d:D}(h:o2I z es=some d): ∃i j,es=[.int i,.int j]/\d=.int (z i j):=by
 unfold o2I at h
 split at h
 ·cases h;exact⟨_,_,rfl,rfl⟩
 ·cases h
theorem qfi{K:Frag}{F:Hp}{i j:Int}{xs:List V}(h:RepL K F [.int i,.int j] xs): xs=[.int i,.int j]:=RepL.ints (ns:=[i,j]).mp h
abbrev oMin:=o2I fun i j=>if j<i then j else i
abbrev oMax:=o2I fun i j=>if j>i then j else i
theorem qit(hc:X.calm=true): zm X (.builtin "min") (rC X.K oMin):=ko (qc1 hc) fun xs H Q ⟨F,ds,d,fh,rl,ho,q⟩=>by
 obtain⟨i,j,rfl,rfl⟩:=q7o ho;exact⟨i,j,qfi rl,q _ F H (.refl fh) (rep_int.mpr rfl)⟩
theorem qiu(hc:X.calm=true): zm X (.builtin "max") (rC X.K oMax):=ko (qc0 hc) fun xs H Q ⟨F,ds,d,fh,rl,ho,q⟩=>by
 obtain⟨i,j,rfl,rfl⟩:=q7o ho;exact⟨i,j,qfi rl,q _ F H (.refl fh) (rep_int.mpr rfl)⟩
def vn:List D->Option D
 | [.tup ds]=>some (.int ds.length)
 | [.lst ds]=>some (.int ds.length)
 | [.str x]=>if x.length<=lim then some (.int x.length) else none
 | _=>none
theorem yi:zm X (.builtin "len") (rC X.K vn):=ko call_len fun xs H Q ⟨F,ds,d,fh,rl,ho,q⟩=>by
 unfold vn at ho
 split at ho
 ·cases ho
  obtain⟨x,rfl,rx⟩:=rep1 rl;obtain⟨a,ys,rfl,k1,k2⟩:=rep_tup.mp rx;exact⟨_,ys.length,rfl,.inr ⟨ys,qr fh k1,rfl⟩,by rw [<- k2.length];exact q _ F H (.refl fh) (rep_int.mpr rfl)⟩
 ·cases ho
  obtain⟨x,rfl,rx⟩:=rep1 rl;obtain⟨a,ys,rfl,k1,k2⟩:=rep_lst.mp rx;exact⟨_,ys.length,rfl,.inl ⟨ys,fh.seq k1,rfl⟩,by rw [<- k2.length];exact q _ F H (.refl fh) (rep_int.mpr rfl)⟩
 ·split at ho
  ·rename_i z
   cases ho;obtain⟨x,rfl,rx⟩:=rep1 rl;cases rep_str.mp rx;exact⟨_,_,rfl,⟨xf z,rfl⟩,q _ F H (.refl fh) (rep_int.mpr rfl)⟩
  ·cases ho
 ·cases ho
def jw:List D->Option D
 | [.tup ds]=>some (.tup ds)
 | [.lst ds]=>some (.tup ds)
 | _=>none
theorem vy:zm X (.type "tuple") (rC X.K jw):=ko q6q fun xs H Q ⟨F,ds,d,fh,rl,ho,q⟩=>by
 unfold jw at ho
 split at ho
 ·cases ho
  obtain⟨x,rfl,rx⟩:=rep1 rl;obtain⟨a,ys,rfl,k1,k2⟩:=rep_tup.mp rx;exact⟨a,ys,rfl,.inr ⟨qr fh k1,q _ F H (.refl fh) rx⟩⟩
 ·cases ho
  obtain⟨x,rfl,rx⟩:=rep1 rl;obtain⟨a,ys,rfl,k1,k2⟩:=rep_lst.mp rx;refine⟨a,ys,rfl,.inl ⟨fh.seq k1,fun l hl=>?_⟩⟩;have gn:Grow F H (upd F l (.tup ys)) (upd H l (.tup ys)):=Grow.new fh hl;exact q _ _ _ gn (rep_tup.mpr ⟨l,ys,rfl,SqT.of qw,k2.mono gn.ff⟩)
 ·cases ho
def rCL(K:Frag)(op:List D->Option (List D)): List V->Hp->VK->Prop:=fun xs H Q=>∃F ds es,Same F H/\RepL K F ds xs/\op ds=some es/\∀a ys F' H',Grow F H F' H'->F' a=none->H a=none->H' a=some (.lst ys)->RepL K F' es ys->Q (.ref a) H'
def wg(op:List D->Option (List D))(fa:FA): FA:=fun ρ =>(fa ρ).bind op
theorem qgg{K:Frag}{op:List D->Option (List D)}{σ : St}{H:Hp}{Q:VK}(h:tL K (wg op fa) σ H Q): tDA K fa σ H fun vs H1=>rCL K op vs H1 Q:=by
 obtain⟨F0,H0,F, ρ,d,r,hf,q⟩:=h;obtain⟨ds,h1,h2⟩:=g0.mp hf;exact⟨F0,H0,F, ρ,ds,r,h1,fun vs F1 H1 g1 r1=>⟨F1,ds,d,g1.fh,r1,h2,fun a ys F2 H2 g2 k1 k2 k3 k4=>q a ys F2 H2 (g1.trans g2) k1 (g1.hh.free k2) k3 k4⟩⟩
theorem qed{x:Str}{p:Pos}{id:String}{op:List D->Option (List D)}(hc:zm X (.builtin id) (rCL X.K op))(hg:Gl X x)(hm:X.mg x=none)(hv:bootBuiltins x=some (.builtin id))(ha:PA X (e :: es) (tDA X.K fa))
  (hn:x≠"__name__" :=by decide) (hdb:(x==("__debug__" : Str))=false:=by decide)
  (he:starEach (e :: es) X.env=(false,eval e X.env) :: starEach es X.env:=by rfl) (hpl:(backTo pos (starEach es X.env)).any (·.1)=false:=by rfl):PE X (.Call (.Name x p) (e :: es) [] pos) (tL X.K (wg op fa)):=
 ze (q04 hc hg hm hv ha hn hdb he hpl) fun σ H Q h=>qgg h
def qfj:List D->Option (List D)
 | [.tup ds]=>some ds
 | [.lst ds]=>some ds
 | _=>none
theorem q9u{K:Frag}{H:Hp}{ds:List D}{xs:List V}{i:Int}{d:D}(h:RepL K H ds xs)(e:atI ds i=some d): ∃x,atI xs i=some x/\Rep K H d x:=by
 unfold atI at e ⊢;rw [<- h.length];cases q:ixN ds.length i with
 | none=>rw [q] at e;cases e
 | some j=>
  rw [q] at e;exact h.get e
def oIx:D->D->Option D
 | .tup ds,.int i=>atI ds i
 | .lst ds,.int i=>atI ds i
 | _,_=>none
theorem xi{a b:Expr}(ha:PE X a (tD X.K f))(hb:PE X b (tD X.K g))(hs:q30 b:=by intro _ _;rfl): PE X (.Subscript a b pos) (tD X.K (eOp oIx f g)):=ze (qap qi9 ha hb hs) fun σ H Q h=>by
 have h':=two h;obtain⟨F0,H0,F, ρ,d,r,hf,q⟩:=h';refine⟨F0,H0,F, ρ,d,r,hf,fun v F1 H1 g1 r1=>?_⟩;obtain⟨F0',H0',F', ρ',d',r',hf',q'⟩:=q v F1 H1 g1 r1;refine⟨F0',H0',F', ρ',d',r',hf',fun v2 F2 H2 g2 r2=>?_⟩;obtain⟨F3,d1,d2,d3,fh,k1,k2,k3,k4⟩:=q' v2 F2 H2 g2 r2;unfold oIx at k3
 split at k3
 ·obtain⟨p,ys,rfl,z1,z2⟩:=rep_tup.mp k1
  obtain⟨y,z3,z4⟩:=q9u z2 k3;exact .inr (.inl ⟨p,ys,_,y,rfl,rep_int.mp k2,qr fh z1,z3,k4 y F3 H2 (.refl fh) z4⟩)
 ·obtain⟨p,ys,rfl,z1,z2⟩:=rep_lst.mp k1
  obtain⟨y,z3,z4⟩:=q9u z2 k3;exact .inl ⟨p,ys,_,y,rfl,rep_int.mp k2,fh.seq z1,z3,k4 y F3 H2 (.refl fh) z4⟩
 ·cases k3
def eUn(o:D->Option D)(f:FE): FE:=fun ρ =>(f ρ).bind o
end
section
variable{prog:Program}{w:World}{A:Around}{E:Value->Shared->Prop}{s:Shared}
theorem q6r{t sl:Addr}{items:Array Value}{vl vu:Value}{lo hi:Option Int}{Q:Value->Shared->Prop}(ht:IsTup s.heap t items)(hs:s.heap.IsSliceOf sl vl vu .none)
  (pl:IsPart vl lo) (pu:IsPart vu hi) (w1:HT.sIx items.size 0 lo=0) (w2:HT.sIx items.size items.size hi=items.size) (h:Q (.ref t) s) :
  wpAny (model prog w) A (getItem (.ref t) (.ref sl)) Q E s:=by
 obtain⟨os,hos,hcs,hds⟩:=id hs;have hTs:s.TypeIs (.ref sl) "slice" :=⟨os,hos,hcs⟩
 unfold getItem
 try with_reducible refine pz ?_
 first|refine g9 (gd ?_)|skip
 refine g9 (wpAny_sequenceKey ht.typeIs (by decide) (g9 (wpAny_callSpecial?_slot (name:=Str.ofString "__getitem__") ht.typeIs mw
  (wpAny_call_entry mw ht.typeIs entry_tuple_getitem ?_ (args_tuple_getitem _ _)))))
 show wpAny _ _ (Builtin.Tuple.tupleItemsOf (.ref t) >>= _) _ _ s;refine g9 (tupleItemsOf_ ht (g9 (g02 hTs ?_)));rw [gu (by decide)];refine g9 (HT.sliceApplied_gen hs pl pu ?_);rw [w1,w2];show wpAny _ _ (if(((0:Nat):Int)==0&&(1:Int)==1&&(items.size-0)==items.size)=true then _ else _) _ _ s;rw [gu (by simp)];refine g9 ?_;unfold Builtin.Tuple.tupleIsExact;refine g9 (g02 ht.typeIs (gd ?_))
 first
  | rw [gu (by decide)]
  | skip
 first
  | exact g9 (wpAny_rule (g9 (gd (gd ⟨_,rfl,gd h⟩))))
  | exact g9 (wpAny_rule (gd ⟨_,rfl,gd h⟩))
  | exact g9 (g9 (wpAny_rule (gd (gd ⟨_,rfl,gd h⟩))))
end
section
variable{X:Cx}{e:Expr}{es:List Expr}{pos:Pos}{f g:FE}{fa:FA}
def ql8(K:Frag): V->Option Int->Option Int->Hp->VK->Prop:=fun x lo hi H Q=>∃a xs,x=.ref a/\SqT K H a xs/\HT.sIx xs.length 0 lo=0/\HT.sIx xs.length xs.length hi=xs.length/\Q (.ref a) H
theorem qee:SlR X (ql8 X.K):=by
 intro pins s σ H x v vl vu lo hi sl Q I rx hs pl pu h;obtain⟨a,xs,rfl,hx,w1,w2,q⟩:=h;cases rx;obtain⟨its,r,ht,hz⟩:=I.tuple hx;have hlen:its.toArray.size=xs.length:=by rw [gc];exact r.length.symm
 exact⟨"tuple",_,mw.lookup,ht.typeIs,q6r ht hs pl pu (by rw [hlen];exact w1) (by rw [hlen];exact w2) ⟨.ref a,H,I,rfl,q⟩⟩
def cutD(ds:List D)(lo hi:Option Int): List D:=(ds.drop (HT.sIx ds.length 0 lo)).take (HT.sIx ds.length ds.length hi-HT.sIx ds.length 0 lo)
def oSl:D->Option Int->Option Int->Option D
 | .tup ds,lo,hi=>some (.tup (cutD ds lo hi))
 | .lst ds,lo,hi=>some (.lst (cutD ds lo hi))
 | _,_,_=>none
abbrev FO:=Rho->Option (Option Int)
def oNo:FO:=fun _=>some none
def oAt(f:FE): FO:=fun ρ =>(f ρ).bind fun d=>match d with
 | .int i=>some (some i)
 | _=>none
def tDO(K:Frag)(f:FO): TO:=fun σ H Q=>∃F0 H0 F ρ i,RS K F0 H0 F H σ ρ /\ f ρ = some i/\∀F' H',Grow F H F' H'->Q i H'
theorem qcl{o:Option Expr}{t t':TO}(h:PO X o t)(i:∀ σ H Q,t' σ H Q->t σ H Q): PO X o t':=fun pins s σ H Q I q=>h pins s σ H Q I (i σ H Q q)
theorem vz:PO X none (tDO X.K oNo):=qcl qg3 fun σ H Q ⟨F0,H0,F, ρ,i,r,hf,q⟩=>by cases hf;exact q F H (.refl r.fh)
theorem xj(h:PE X e (tD X.K f)): PO X (some e) (tDO X.K (oAt f)):=qcl (qg4 h) fun σ H Q ⟨F0,H0,F, ρ,i,r,hf,q⟩=>by
 obtain⟨d,h1,h2⟩:=g0.mp hf;cases d <;> simp only at h2 <;> first|(cases h2;done)|skip
 cases h2;exact⟨F0,H0,F, ρ,_,r,h1,fun v F' H' g' r'=>⟨_,rep_int.mp r',q F' H' g'⟩⟩
def eSl(f:FE)(lo hi:FO): FE:=fun ρ =>(f ρ).bind fun d=>(lo ρ).bind fun l=>(hi ρ).bind fun h=>oSl d l h
theorem q7p{a:Expr}{lo hi:Option Expr}{fl fh:FO}{p2:Pos}(ha:PE X a (tD X.K f))(hl:PO X lo (tDO X.K fl))(hh:PO X hi (tDO X.K fh)): PE X (.Subscript a (.Slice lo hi none p2) pos) (tD X.K (eSl f fl fh)):=
 ze (q7d (sl_list.or (sl_tup.or qee)) ha hl hh) fun σ H Q ⟨F0,H0,F, ρ,d,r,hf,q⟩=>by
  obtain⟨x,h1,hf⟩:=g0.mp hf;obtain⟨l,h2,hf⟩:=g0.mp hf;obtain⟨u,h3,h4⟩:=g0.mp hf;refine⟨F0,H0,F, ρ,x,r,h1,fun v F1 H1 g1 r1=>⟨F0,H0,F1, ρ,l,r.grow g1,h2,fun F2 H2 g2=>⟨F0,H0,F2, ρ,u,(r.grow g1).grow g2,h3,fun F3 H3 g3=>?_⟩⟩⟩;have gg:=g1.trans (g2.trans g3);have r3:Rep X.K F3 x v:=r1.mono (g2.ff.trans g3.ff);cases x with
  | tup ds=>
   cases h4;obtain⟨p,xs,rfl,k1,k2⟩:=rep_tup.mp r3;have hlen:=k2.length
   by_cases wh:HT.sIx xs.length 0 l=0/\HT.sIx xs.length xs.length u=xs.length
   ·refine .inr (.inr ⟨p,xs,rfl,qr g3.fh k1,wh.1,wh.2,q _ F3 H3 gg ?_⟩)
    have e:cutD ds l u=ds:=by
     unfold cutD;rw [hlen,wh.1,wh.2,uc,Nat.sub_zero, <- hlen,List.take_length]
    rw [e];exact r3
   ·refine .inr (.inl ⟨p,xs,rfl,qr g3.fh k1,wh,fun p' hp=>?_⟩)
    have gn:Grow F3 H3 (upd F3 p' (.tup (w4 xs l u))) (upd H3 p' (.tup (w4 xs l u))):=Grow.new g3.fh hp;refine q _ _ _ (gg.trans gn) (rep_tup.mpr ⟨p',_,rfl,SqT.of qw,?_⟩);unfold cutD w4;rw [hlen];exact((k2.mono gn.ff).drop _).take _
  | lst ds=>
   cases h4;obtain⟨p,xs,rfl,k1,k2⟩:=rep_lst.mp r3;have hlen:=k2.length;refine .inl ⟨p,xs,rfl,g3.fh.seq k1,fun p' hp=>?_⟩;have gn:Grow F3 H3 (upd F3 p' (.lst (w4 xs l u))) (upd H3 p' (.lst (w4 xs l u))):=Grow.new g3.fh hp;refine q _ _ _ (gg.trans gn) (rep_lst.mpr ⟨p',_,rfl,SqL.of qw,?_⟩);unfold cutD w4;rw [hlen];exact((k2.mono gn.ff).drop _).take _
  | _=>cases h4
def q3x:D->D->Option D
 | .tup xs,.tup ys=>if xs.length+ys.length<=lim then some (.tup (xs++ys)) else none
 | .lst xs,.lst ys=>if xs.length+ys.length<=lim then some (.lst (xs++ys)) else none
 | _,_=>none
theorem qiv:OpR X (binaryOp .Add) (rD X.K q3x):=by
 intro pins s σ H x y v u Q I rx ry h;obtain⟨F,d1,d2,d,fh,r1,r2,ho,q⟩:=h;unfold q3x at ho
 split at ho
 ·rename_i ds es
  split at ho
  ·rename_i hl
   cases ho;obtain⟨a,xs,rfl,k1,k2⟩:=rep_tup.mp r1;obtain⟨b,ys,rfl,k3,k4⟩:=rep_tup.mp r2
   by_cases hd:ds=[]
   ·subst hd
    cases k2.nil_inv;cases rx;cases ry;obtain⟨i1,v1,⟨⟨c1,dd1,dt1,sl1⟩,o1,e1,n1,t1⟩,_⟩:=I.tuple (qr fh k1);obtain⟨i2,v2,⟨⟨c2,dd2,dt2,sl2⟩,o2,e2,n2,t2⟩,_⟩:=I.tuple (qr fh k3);simp only at e1 t1 e2 t2;subst e1 t1 e2 t2;cases v1;exact g0z ⟨_,o1,rfl⟩ ⟨_,o2,rfl⟩ g10 seq_tuple_add uo ud (ua _ _)
     (tuple_addW0 a b #[] i2.toArray n1 n2 dd1 dd2 sl1 sl2 rfl) ⟨o1,o2,⟨.ref b,H,I,rfl,q _ F H (.refl fh) (by simpa using r2)⟩⟩
   ·refine qg5 pins s σ H _ _ v u Q I rx ry ⟨a,b,xs,ys,rfl,rfl,qr fh k1,qr fh k3,fun z=>hd ?_,xf (by rw [<- k2.length, <- k4.length];exact hl),fun z=>?_,fun z p hp=>?_⟩
    ·have:=k2.length;rw [z] at this;exact g0b this
    ·have e:es=[]:=by have:=k4.length;rw [z] at this;exact g0b this
     subst e;rw [t4] at q;exact q _ F H (.refl fh) r1
    ·have gn:Grow F H (upd F p (.tup (xs++ys))) (upd H p (.tup (xs++ys))):=Grow.new fh hp
     exact q _ _ _ gn (rep_tup.mpr ⟨p,_,rfl,SqT.of qw,(k2.mono gn.ff).append (k4.mono gn.ff)⟩)
  ·cases ho
 ·rename_i ds es
  split at ho
  ·rename_i hl
   cases ho;obtain⟨a,xs,rfl,k1,k2⟩:=rep_lst.mp r1;obtain⟨b,ys,rfl,k3,k4⟩:=rep_lst.mp r2;cases rx;cases ry;obtain⟨i1,v1,⟨⟨c1,dd1,dt1,sl1⟩,n1,o1,e1,g1,t1⟩,_⟩:=I.list (fh.seq k1);obtain⟨i2,v2,⟨⟨c2,dd2,dt2,sl2⟩,n2,o2,e2,g2,t2⟩,_⟩:=I.list (fh.seq k3);simp only at e1 t1 e2 t2;subst e1 t1 e2 t2;have hz:xs.length+ys.length<=sizeLine:=xf (by rw [<- k2.length, <- k4.length];exact hl);refine g0z ⟨_,o1,rfl⟩ ⟨_,o2,rfl⟩ noFill_list_add seq_list_add PySem.F.slot_list_add PySem.F.entry_list_add (PySem.F.args_list_add_2 _ _)
    (list_addW a b i1.toArray i2.toArray n1 n2 dd1 dd2 sl1 sl2 (by rw [gc,gc, <- v1.length, <- v2.length];exact hz)) ⟨o1,o2,?_⟩
   have ea:i1.toArray++i2.toArray=(i1++i2).toArray:=by simp
   rw [ea];have gn:Grow F H (upd F s.heap.objs.size (.lst (xs++ys))) (upd H s.heap.objs.size (.lst (xs++ys))):=Grow.new fh I.fresh;exact⟨.ref _,_,I.lnew (t':=s.toks) (v1.append v2) (by rw [gh];exact hz),rfl,q _ _ _ gn (rep_lst.mpr ⟨_,_,rfl,SqL.of qw,(k2.mono gn.ff).append (k4.mono gn.ff)⟩)⟩
  ·cases ho
 ·cases ho
abbrev zk:D->D->Option D:=fun x y=>(oAdd x y).or (q3x x y)
theorem zt:OpR X (binaryOp .Add) (rD X.K zk):=q7f qig qiv
def flat(d:D): Bool:=(flD d).isSome
def eqF:D->D->Bool
 | .non,.non=>true
 | .bl a,.bl b=>a==b
 | .bl a,.int b=>(if a then 1 else 0)==b
 | .int a,.bl b=>a==(if b then 1 else 0)
 | .int a,.int b=>a==b
 | .str a,.str b=>a==b
 | _,_=>false
theorem qfk{K:Frag}{H:Hp}{d e:D}{x y:V}(h1:flat d=true)(h2:flat e=true)(r1:Rep K H d x)(r2:Rep K H e y): eqV x y=eqF d e/\q6w x=true/\q6w y=true:=by
 cases d <;> first|(cases h1;done)|skip
 all_goals (cases e <;> first|(cases h2;done)|skip)
 all_goals (first|(cases rep_non.mp r1)|(cases rep_bl.mp r1)|(cases rep_int.mp r1)|(cases rep_str.mp r1))
 all_goals (first|(cases rep_non.mp r2)|(cases rep_bl.mp r2)|(cases rep_int.mp r2)|(cases rep_str.mp r2))
 all_goals exact⟨rfl,rfl,rfl⟩
end
mutual
def eqD:D->D->Bool
 | .tup ds,.tup es=>eqL ds es
 | .lst ds,.lst es=>eqL ds es
 | d,e=>eqF d e
def eqL:List D->List D->Bool
 | [],[]=>true
 | d :: ds,e :: es=>eqD d e&&eqL ds es
 | _,_=>false
end
mutual
def okE:D->D->Bool
 | .tup ds,.tup es=>v5 ds es
 | .lst ds,.lst es=>v5 ds es
 | d,e=>flat d&&flat e
def v5:List D->List D->Bool
 | d :: ds,e :: es=>okE d e&&v5 ds es
 | _,_=>true
end
mutual
def q1k:D->Nat
 | .tup ds=>yj ds+1
 | .lst ds=>yj ds+1
 | _=>0
def yj:List D->Nat
 | []=>0
 | d :: ds=>max (q1k d) (yj ds)
end
def eqJ(ds es:List D)(j:Nat): Bool:=match ds[j]?,es[j]? with
 | some d,some e=>eqD d e
 | _,_=>true
theorem v7:∀(ds es:List D),((List.range (min ds.length es.length)).all (eqJ ds es)&&ds.length==es.length)=eqL ds es
 | [],[]=>by simp [eqL]
 | [],e :: es=>by simp [eqL]
 | d :: ds,[]=>by simp [eqL]
 | d :: ds,e :: es=>by
  have ih:=v7 ds es;have e1:min (d :: ds).length (e :: es).length=min ds.length es.length+1:=by simp only [gz];lia
  rw [e1,g1h,List.all_cons,List.all_map];have e2:(eqJ (d :: ds) (e :: es) ∘ Nat.succ)=eqJ ds es:=by funext j;simp [eqJ]
  have e3:eqJ (d :: ds) (e :: es) 0=eqD d e:=by simp [eqJ]
  have e4:((d :: ds).length==(e :: es).length)=(ds.length==es.length):=by simp
  rw [e2,e3,e4,Bool.and_assoc,ih];simp only [eqL]
theorem q7q{d e:D}(h1:flat d=true)(h2:flat e=true): eqD d e=eqF d e:=by
 cases d <;> first|(cases h1;done)|skip
 all_goals (cases e <;> first|(cases h2;done)|skip)
 all_goals simp only [eqD]
section
variable{X:Cx}{pins:List (Addr×Obj)}{σ : St}{F H:Hp}{s:Shared}
theorem qcm{A:Around}{d e:D}{x y:V}{u v:Value}(h1:flat d=true)(h2:flat e=true)(r1:Rep X.K F d x)(r2:Rep X.K F e y)(q1:RelV x u)(q2:RelV y v): SeqAt.EqAt A s u v (eqD d e):=by
 obtain⟨z1,z2,z3⟩:=qfk h1 h2 r1 r2;rw [q7q h1 h2, <- z1];exact qia q1 q2 z2 z3
theorem q7r{d e:D}(h:okE d e=true): (∃ds es,d=.tup ds/\e=.tup es/\v5 ds es=true)\/(∃ds es,d=.lst ds/\e=.lst es/\v5 ds es=true)\/(flat d=true/\flat e=true):=by
 cases d <;> cases e <;> simp only [okE,mj] at h <;> first
  | exact .inl ⟨_,_,rfl,rfl,h⟩
  | exact .inr (.inl ⟨_,_,rfl,rfl,h⟩)
  | exact .inr (.inr h)
theorem q9v(I:Inv X pins σ H s)(fh:Same F H): ∀ {d e:D} {x:V},okE d e=true->Rep X.K F d x->Rep X.K F e x->eqD d e=true:=by
 suffices hh:∀n,(∀d e x,sizeOf d<n->okE d e=true->Rep X.K F d x->Rep X.K F e x->eqD d e=true) from fun {d e x}=>hh (sizeOf d+1) d e x (g12 _)
 intro n
 induction n with
 | zero=>intro d e x h;exact absurd h (t5 _)
 | succ n ih=>
  intro d e x hn ok r1 r2;have seq:∀(ds es:List D) (xs:List V),sizeOf ds<n->v5 ds es=true->RepL X.K F ds xs->RepL X.K F es xs->eqL ds es=true:=by
   intro ds
   induction ds with
   | nil=>
    intro es xs _ _ k1 k2;cases k1.nil_inv;cases es with
    | nil=>simp only [eqL]
    | cons e es=>obtain⟨_,_,z,_⟩:=k2.cons_inv;cases z
   | cons d ds ihd=>
    intro es xs hs ho k1 k2;obtain⟨x,r,rfl,a1,a2⟩:=k1.cons_inv;cases es with
    | nil=>cases k2.nil_inv
    | cons e es=>
     obtain⟨x',r',z,b1,b2⟩:=k2.cons_inv;cases z;simp only [v5,mj] at ho;have hs1:sizeOf d<n:=by simp only [td] at hs;lia
     have hs2:sizeOf ds<n:=by simp only [td] at hs;lia
     simp only [eqL,mj];exact⟨ih d e x hs1 ho.1 a1 b1,ihd es r hs2 ho.2 a2 b2⟩
  rcases q7r ok with⟨ds,es,rfl,rfl,ho⟩|⟨ds,es,rfl,rfl,ho⟩|⟨h1,h2⟩
  ·obtain⟨a,xs,rfl,k1,k2⟩:=rep_tup.mp r1
   obtain⟨b,ys,z,k3,k4⟩:=rep_tup.mp r2;cases z;cases I.tuple_inj (qr fh k1) (qr fh k3);simp only [eqD];exact seq ds es xs (by simp only [D.tup.sizeOf_spec] at hn;lia) ho k2 k4
  ·obtain⟨a,xs,rfl,k1,k2⟩:=rep_lst.mp r1
   obtain⟨b,ys,z,k3,k4⟩:=rep_lst.mp r2;cases z;cases I.list_inj (fh.seq k1) (fh.seq k3);simp only [eqD];exact seq ds es xs (by simp only [D.lst.sizeOf_spec] at hn;lia) ho k2 k4
  ·obtain⟨z1,_⟩:=qfk h1 h2 r1 r2
   rw [q7q h1 h2, <- z1];cases d <;> first|(cases h1;done)|skip
   ·cases rep_non.mp r1;rfl
   ·cases rep_bl.mp r1;simp [eqV]
   ·cases rep_int.mp r1;simp [eqV]
   ·cases rep_str.mp r1;simp [eqV]
theorem qiw (I:Inv X pins σ H s) (fh:Same F H):∀ {d e:D} {x y:V} {u v:Value} (A:Around),okE d e=true->A.units+q1k d<cLine->Rep X.K F d x->Rep X.K F e y->RelV x u->RelV y v->SeqAt.EqAt A s u v (eqD d e):=by
 suffices hh:∀n,(∀d e x y u v (A:Around),sizeOf d<n->okE d e=true->A.units+q1k d<cLine->Rep X.K F d x->Rep X.K F e y->RelV x u->RelV y v->SeqAt.EqAt A s u v (eqD d e)) from
  fun {d e x y u v} A=>hh (sizeOf d+1) d e x y u v A (g12 _)
 intro n
 induction n with
 | zero=>intro d e x y u v A h;exact absurd h (t5 _)
 | succ n ih=>
  intro d e x y u v A hn ok hu r1 r2 q1 q2;have seq:∀(ds es:List D) (xs ys:List V) (us vs:List Value) (A:Around),sizeOf ds<n->v5 ds es=true->A.units+yj ds<cLine->RepL X.K F ds xs->RepL X.K F es ys->Vals xs us->Vals ys vs ->
    ∀j (h1:j<us.length) (h2:j<vs.length),SeqAt.EqAt A s us[j] vs[j] (eqJ ds es j):=by
   intro ds
   induction ds with
   | nil=>
    intro es xs ys us vs A _ _ _ k1 _ w1 _ j h1;cases k1.nil_inv;cases w1;exact absurd h1 (t5 _)
   | cons d ds ihd=>
    intro es xs ys us vs A hs ho hu k1 k2 w1 w2 j h1 h2;obtain⟨x,r,rfl,a1,a2⟩:=k1.cons_inv;cases w1 with
    | cons p1 p2=>
     cases es with
     | nil=>cases k2.nil_inv;cases w2;exact absurd h2 (t5 _)
     | cons e es=>
      obtain⟨y,r',rfl,b1,b2⟩:=k2.cons_inv;cases w2 with
      | cons p3 p4=>
       simp only [v5,mj] at ho;have hs1:sizeOf d<n:=by simp only [td] at hs;lia
       have hs2:sizeOf ds<n:=by simp only [td] at hs;lia
       simp only [yj] at hu;cases j with
       | zero=>
        have e0:eqJ (d :: ds) (e :: es) 0=eqD d e:=by simp [eqJ]
        rw [e0];exact ih d e x y _ _ A hs1 ho.1 (by lia) a1 b1 p1 p3
       | succ j=>
        have e0:eqJ (d :: ds) (e :: es) (j+1)=eqJ ds es j:=by simp [eqJ]
        rw [e0];exact ihd es r r' _ _ A hs2 ho.2 (by lia) a2 b2 p2 p4 j (by simpa using h1) (by simpa using h2)
  rcases q7r ok with⟨ds,es,rfl,rfl,ho⟩|⟨ds,es,rfl,rfl,ho⟩|⟨h1,h2⟩
  ·have rr:=q9v I fh ok r1
   obtain⟨a,xs,rfl,k1,k2⟩:=rep_tup.mp r1;obtain⟨b,ys,rfl,k3,k4⟩:=rep_tup.mp r2;cases q1;cases q2
   by_cases hab:a=b
   ·subst hab
    rw [rr r2];exact g1c _
   ·obtain⟨i1,v1,t1,_⟩:=I.tuple (qr fh k1)
    obtain⟨i2,v2,t2,_⟩:=I.tuple (qr fh k3);simp only [q1k] at hu;refine SeqAt.EqAt.of_refs hab ?_;have hq:=seq ds es xs ys i1 i2 A.in1 (by simp only [D.tup.sizeOf_spec] at hn;lia) ho (by show A.units+1+yj ds<cLine;lia) k2 k4 v1 v2;have:=SeqAt.RcAt.tuples (A:=A) (e:=eqJ ds es) (show s.heap.IsTuple a i1.toArray from t1) (show s.heap.IsTuple b i2.toArray from t2) (by lia) (fun j h1 h2=>by simpa using hq j (by simpa using h1) (by simpa using h2));simp only [gc, <- v1.length, <- v2.length, <- k2.length, <- k4.length,v7] at this
    simpa only [eqD] using this
  ·have rr:=q9v I fh ok r1
   obtain⟨a,xs,rfl,k1,k2⟩:=rep_lst.mp r1;obtain⟨b,ys,rfl,k3,k4⟩:=rep_lst.mp r2;cases q1;cases q2
   by_cases hab:a=b
   ·subst hab
    rw [rr r2];exact g1c _
   ·obtain⟨i1,v1,t1,_⟩:=I.list (fh.seq k1)
    obtain⟨i2,v2,t2,_⟩:=I.list (fh.seq k3);simp only [q1k] at hu;refine SeqAt.EqAt.of_refs hab ?_;have hq:=seq ds es xs ys i1 i2 A.in1 (by simp only [D.lst.sizeOf_spec] at hn;lia) ho (by show A.units+1+yj ds<cLine;lia) k2 k4 v1 v2;have hl1:i1.length=ds.length:=by rw [<- v1.length, <- k2.length]
    have hl2:i2.length=es.length:=by rw [<- v2.length, <- k4.length]
    simp only [eqD]
    by_cases hl:ds.length=es.length
    ·have:=SeqAt.RcAt.lists (A:=A) (e:=eqJ ds es) t1.isList t2.isList (by rw [gc,gc,hl1,hl2];exact hl) (by lia) (fun j h1 h2=>by simpa using hq j (by simpa using h1) (by simpa using h2))
     have e1:(List.range i1.toArray.size).all (eqJ ds es)=eqL ds es:=by
      rw [<- v7,gc,hl1, <- hl,tf];simp
     rw [e1] at this;exact this
    ·have e1:eqL ds es=false:=by rw [<- v7];simp [hl]
     rw [e1];exact SeqAt.RcAt.lists_lengths t1.isList t2.isList (by rw [gc,gc,hl1,hl2];simpa using hl) (by lia)
  ·exact qcm h1 h2 r1 r2 q1 q2
def qef:D->D->Option D
 | .tup ds,.tup es=>if v5 ds es&&decide (yj ds<=60) then some (.bl (eqL ds es)) else none
 | .lst ds,.lst es=>if v5 ds es&&decide (yj ds<=60) then some (.bl (eqL ds es)) else none
 | _,_=>none
theorem qix(hu:X.A.units+64<cLine): OpR X (compareOp .Eq) (rD X.K qef):=by
 intro pins s σ H x y v u Q I rx ry h;obtain⟨F,d1,d2,d,fh,r1,r2,ho,q⟩:=h;have part:∀ {ds es:List D} {xs ys:List V} {us vs:List Value},v5 ds es=true->yj ds<=60->RepL X.K F ds xs->RepL X.K F es ys->Vals xs us->Vals ys vs ->
   ∀j (h1:j<us.length) (h2:j<vs.length),SeqAt.EqAt X.A.in1 s us[j] vs[j] (eqJ ds es j):=by
  intro ds
  induction ds with
  | nil=>
   intro es xs ys us vs _ _ k1 _ w1 _ j h1;cases k1.nil_inv;cases w1;exact absurd h1 (t5 _)
  | cons d ds ihd=>
   intro es xs ys us vs ho hd k1 k2 w1 w2 j h1 h2;obtain⟨x,r,rfl,a1,a2⟩:=k1.cons_inv;cases w1 with
   | cons p1 p2=>
    cases es with
    | nil=>cases k2.nil_inv;cases w2;exact absurd h2 (t5 _)
    | cons e es=>
     obtain⟨y,r',rfl,b1,b2⟩:=k2.cons_inv;cases w2 with
     | cons p3 p4=>
      simp only [v5,mj] at ho;simp only [yj] at hd;cases j with
      | zero=>
       have e0:eqJ (d :: ds) (e :: es) 0=eqD d e:=by simp [eqJ]
       rw [e0];exact qiw I fh _ ho.1 (by show X.A.units+1+q1k d<cLine;lia) a1 b1 p1 p3
      | succ j=>
       have e0:eqJ (d :: ds) (e :: es) (j+1)=eqJ ds es j:=by simp [eqJ]
       rw [e0];exact ihd ho.2 (by lia) a2 b2 p2 p4 j (by simpa using h1) (by simpa using h2)
 unfold qef at ho
 split at ho
 ·rename_i ds es
  split at ho
  ·rename_i hc
   cases ho;rw [mj] at hc;obtain⟨a,xs,rfl,k1,k2⟩:=rep_tup.mp r1;obtain⟨b,ys,rfl,k3,k4⟩:=rep_tup.mp r2;cases rx;cases ry;obtain⟨i1,v1,t1,_⟩:=I.tuple (qr fh k1);obtain⟨i2,v2,t2,_⟩:=I.tuple (qr fh k3);have hq:=part hc.1 (t9 hc.2) k2 k4 v1 v2;refine SeqAt.eq_tupleAt (e:=eqJ ds es) (show s.heap.IsTuple a i1.toArray from t1) (show s.heap.IsTuple b i2.toArray from t2) (by lia) (fun j h1 h2=>by simpa using hq j (by simpa using h1) (by simpa using h2)) ?_;simp only [gc, <- v1.length, <- v2.length, <- k2.length, <- k4.length,v7];exact⟨.bl _,H,I,rfl,q _ F H (.refl fh) (rep_bl.mpr rfl)⟩
  ·cases ho
 ·rename_i ds es
  split at ho
  ·rename_i hc
   cases ho;rw [mj] at hc;obtain⟨a,xs,rfl,k1,k2⟩:=rep_lst.mp r1;obtain⟨b,ys,rfl,k3,k4⟩:=rep_lst.mp r2;cases rx;cases ry;obtain⟨i1,v1,t1,_⟩:=I.list (fh.seq k1);obtain⟨i2,v2,t2,_⟩:=I.list (fh.seq k3);have hq:=part hc.1 (t9 hc.2) k2 k4 v1 v2;have hl1:i1.length=ds.length:=by rw [<- v1.length, <- k2.length]
   have hl2:i2.length=es.length:=by rw [<- v2.length, <- k4.length]
   by_cases hl:ds.length=es.length
   ·refine SeqAt.eq_listAt (e:=eqJ ds es) t1.isList t2.isList (by rw [gc,gc,hl1,hl2];exact hl) (by lia) (fun j h1 h2=>by simpa using hq j (by simpa using h1) (by simpa using h2)) ?_
    have e1:(List.range i1.toArray.size).all (eqJ ds es)=eqL ds es:=by
     rw [<- v7,gc,hl1, <- hl,tf];simp
    rw [e1];exact⟨.bl _,H,I,rfl,q _ F H (.refl fh) (rep_bl.mpr rfl)⟩
   ·have e1:eqL ds es=false:=by rw [<- v7];simp [hl]
    rw [e1] at q;exact SeqAt.eq_list_lengthsAt t1.isList t2.isList (by rw [gc,gc,hl1,hl2];simpa using hl) (by lia) ⟨.bl _,H,I,rfl,q _ F H (.refl fh) (rep_bl.mpr rfl)⟩
  ·cases ho
 ·cases ho
abbrev oEq:D->D->Option D:=fun x y=>(q7g x y).or (qef x y)
theorem kb(hu:X.A.units+64<cLine): OpR X (compareOp .Eq) (rD X.K oEq):=q7f qil (qix hu)
end
section
variable{prog:Program}{w:World}{A:Around}{E:Value->Shared->Prop}{s:Shared}
end
section
variable{X:Cx}{pins:List (Addr×Obj)}{σ : St}{H:Hp}{s:Shared}{h':Heap}
end
def qiy(xs ys:List D): List D:=List.zipWith (fun a b=>.tup [a,b]) xs ys
section
variable{X:Cx}{pos:Pos}{elts:List Expr}{x1:Nat}{tp:Pos}
def qiz(fa:FA): FA:=fun ρ =>(fa ρ).bind fun ds=>match ds with
 | [x,y]=>(q1h x).bind fun xs=>(q1h y).map fun ys=>qiy xs ys
 | _=>none
end
section
variable{X:Cx}{e:Expr}{es:List Expr}{kws:List Keyword}{pos:Pos}{f g:FE}{fa fk:FA}
def qeg(n m:Nat)(fa fk:FA): FA:=fun ρ =>(fa ρ).bind fun ds=>(fk ρ).bind fun es=>if ds.length=n/\es.length=m then some (ds++es) else none
def qau(ar:Nat)(op:List D->Option D): List D->Option D:=fun ds=>if ds.length=ar then op ds else none
end
structure Cal(P:Program)(w:World)(K:Frag)(mg:Str->Option Value)(base:Heap)(x:Str)(k:Nat)(ps:List Str)(ar:Nat)(op:List D->Option D)(fn:Addr)(fd:FuncData): Prop where
 ok:FnOk P w K mg base CX0 k fn fd ps (spD K ar op)
 mg:mg x=some (.ref fn)
 kp:PySem.W.keepIn K (.ref fn)=true
section
variable{X:Cx}{e:Expr}{es:List Expr}{kws:List Keyword}{pos p:Pos}{fa fk:FA}{k ar k':Nat}{fn:Addr}{fd:FuncData}{ps ks:List Str}{op:List D->Option D}{x:Str}
theorem qz(C:Cal X.prog X.w X.K X.mg X.base x k ps ar op fn fd)(b:Binds X.K fd ps [])(hr:Room k' X.A)(hk:k<=k')(hg:Gl X x)(ha:PA X (e :: es) (tDA X.K fa))(hdb:(x==("__debug__" : Str))=false:=by decide)
  (he:starEach (e :: es) X.env=(false,eval e X.env) :: starEach es X.env:=by rfl) (hpl:(backTo pos (starEach es X.env)).any (·.1)=false:=by rfl):PE X (.Call (.Name x p) (e :: es) [] pos) (tD X.K (qh (qo ar [] op) fa)):=
 qgd C.ok (hr.mono hk) hg C.mg C.kp b .nil (fun H=>.nil) ha hdb he hpl
theorem q18{i:Int}(hg:Gl X x)(hm:∃t,X.mg x=some (.int i t))(hdb:(x==("__debug__" : Str))=false:=by decide): PE X (.Name x p) (tD X.K (eC (.int i))):=by
 obtain⟨t,hm⟩:=hm;exact q07 (q9i hg hm (v:=.int i) ⟨t,rfl⟩ hdb) fun _=>rep_int.mpr rfl
def q7s:D->Option D
 | .int i=>some (.int (-i))
 | _=>none
theorem qcn{f:FE}(ha:PE X e (tD X.K f)): PE X (.UnaryOp .USub e pos) (tD X.K (eUn q7s f)):=by
 intro pins s σ H Q I h;obtain⟨F0,H0,F, ρ,d,r,hf,q⟩:=h;obtain⟨d',h1,h2⟩:=g0.mp hf;cases d' <;> simp only [q7s] at h2 <;> first|(cases h2;done)|skip
 cases h2;refine UnaryOp_ (thn (ha pins s σ H (fun v H'=>∃F',Grow F H F' H'/\Rep X.K F' (.int _) v) I ⟨F0,H0,F, ρ,_,r,h1,fun v F' H' g' r'=>⟨F',g',r'⟩⟩) fun v s1 ⟨x,H1,I1,r1,F',g',r'⟩=>?_);cases rep_int.mp r';obtain⟨t,rfl⟩:=r1;exact neg_int ⟨.int _,H1,I1.tok _,⟨_,rfl⟩,q _ F' H1 g' (rep_int.mpr rfl)⟩
end
structure Fun2(K:Frag)(x qual:Str)(st:Stmt)(dV:Value)(f:Addr)(fd:FuncData): Prop where
 ex:∃(oc:Value) (od:Option Addr) (kV doc pm:Value) (an:Option Addr) (cdv ct:Value) (osl:Array (Option Value)),
  fd=PySem.W.fnOf x qual (q13 st) (z0 st) (qe st) dV kV doc pm an cdv ct/\K.lookup f=some ⟨oc,od,.func fd,osl⟩/\PySem.W.codeIn K cdv qual=true
 kp:PySem.W.keepIn K (.ref f)=true
section
variable{P:Program}{w:World}{K:Frag}{mg:Str->Option Value}{base:Heap}{x qual:Str}{st:Stmt}{dV:Value}{f:Addr}{fd:FuncData}{N ps:List Str}
theorem Fun2.ok{k:Nat}{u:FS}(F:Fun2 K x qual st dV f fd)(S:FnScope N ps (qe st))
  (hb:∀(cdv:Value) (A:Around) (outer:List Env) (s:Shared) (H:Hp) (E:XK),Room k (A.deeper (envOfC qual (qe st) s.heap.objs.size f cdv))->PSs (j3 CX0 P w K mg base N qual (qe st) f cdv A outer s H E).nox (z0 st) (tDS K u)) :
  FnOk P w K mg base CX0 (k+1) f fd ps (spD K ps.length (zb N.length u)):=by
 obtain⟨oc,od,kV,doc,pm,an,cdv,ct,osl,rfl,lk,hcd⟩:=F.ex;exact qkd lk hcd S fun A outer s H E hr=>hb cdv A outer s H E hr
theorem Fun2.okn{k n ar k1:Nat}{u:FS}(F:Fun2 K x qual st dV f fd)(S:FnScope N ps (qe st))(hn:N.length=n)(ha:ps.length=ar)(hk:k+1=k1)
  (hb:∀(cdv:Value) (A:Around) (outer:List Env) (s:Shared) (H:Hp) (E:XK),Room k (A.deeper (envOfC qual (qe st) s.heap.objs.size f cdv))->PSs (j3 CX0 P w K mg base N qual (qe st) f cdv A outer s H E).nox (z0 st) (tDS K u)) :
  FnOk P w K mg base CX0 k1 f fd ps (spD K ar (zb n u)):=by
 subst hn ha hk;exact F.ok S hb
theorem qgh{oc:Value}{od an:Option Addr}{osl:Array (Option Value)}{kV doc pm cdv ct:Value}(l:K.lookup f=some ⟨oc,od,.func (PySem.W.fnOf x qual (q13 st) (z0 st) (qe st) dV kV doc pm an cdv ct),osl⟩)
  (c:PySem.W.codeIn K cdv qual=true) (k:PySem.W.keepIn K (.ref f)=true):Fun2 K x qual st dV f (PySem.W.fnOf x qual (q13 st) (z0 st) (qe st) dV kV doc pm an cdv ct):=⟨⟨oc,od,kV,doc,pm,an,cdv,ct,osl,rfl,l,c⟩,k⟩
theorem Fun2.bindsTo(F:Fun2 K x qual st dV f fd){P:FuncData->Prop}(h:∀(kV doc pm:Value) (an:Option Addr) (cdv ct:Value),P (PySem.W.fnOf x qual (q13 st) (z0 st) (qe st) dV kV doc pm an cdv ct)): P fd:=by
 obtain⟨oc,od,kV,doc,pm,an,cdv,ct,osl,rfl,lk,hcd⟩:=F.ex;exact h kV doc pm an cdv ct
end
def q6y(K:Frag): Sp:=fun vs H Q _=>∃(a:Addr) (ns:List Int) (F:Hp),vs=[.ref a]/\SameT F H/\SqL K F a (ns.map V.int)/\ns.length<=63/\∀H',Q (.bl true) H'
theorem qj0{P:Program}{w:World}{K:Frag}{mg:Str->Option Value}{base:Heap}{k:Nat}{f:Addr}{fd:FuncData}{x:Str}{op:List D->Option D}(F:FnOk P w K mg base CX0 k f fd [x] (spD K 1 op))(h:∀ns:List Int,ns.length<=63->op [.lst (ns.map .int)]=some (.bl true)):
  FnOk P w K mg base CX0 k f fd [x] (q6y K):=F.imp fun vs H Q E ⟨a,ns,Fz,e,fz,hS,hl,q⟩=>by
 subst e;exact⟨Fz,[.lst (ns.map .int)],.bl true,fz,.cons (rep_lst.mpr ⟨a,_,rfl,hS,RepL.ints.mpr rfl⟩) .nil,rfl,h ns hl,fun v F' H' g' r'=>by rw [rep_bl.mp r'];exact q H'⟩
theorem qj1(ht:Lam.tab=[]){l:PySem.W.OpenLaw}{k:Nat}{x:Str}{q:Program}{loose:List Str}{XP:(Str->Option Value)->Heap->Prop}{YP:World->Heap->Prop}{d:DefRec}{K:Params->Frag}(hn:l.most=some 63)(hdf:d.params.defaults=[])(hk:Room k callerA)
  (hY:∀(w:World) (h:Heap),YP w h->(K w.params).In h)
  (F:∀(w:World) (mg:Str->Option Value) (fa:Addr) (h:Heap),(K w.params).In h->h.Ns mainGlobals mg->mg d.name=some (.ref fa) ->
   ∃fd:FuncData,(∀(s:Shared) (u:Value),BindsTo s fd ⟨[u],[]⟩ [(x,u)])/\∀base:Heap,(K w.params).In base->base.Ns mainGlobals mg->FnOk l.prog w (K w.params) mg base CX0 k fa fd [x] (q6y (K w.params))) :
  PySem.W.WalkO q loose XP YP l.row.toRowW d [] (fun f vs=>PySem.call f vs):=
 L2.qg7 (n:=63) (k:=k) (x:=x) (CX:=fun _=>CX0) (sp:=fun w=>q6y (K w.params)) hn (by decide) hdf hk hY F (fun _ H a ns hl _ hS=>⟨a,ns,H,rfl,⟨.refl _,fun p hp=>(by rw [ht] at hp;cases hp),fun p hp=>(by rw [ht] at hp;cases hp)⟩,hS,hl,fun _=>rfl⟩) fun _ _ _ _ _ z=>z
section
variable{X:Cx}{pos:Pos}{f g:FE}{a b:Expr}
abbrev oLt':=oLt
end
section
variable{X:Cx}{pos:Pos}{f g k:FE}{a b c:Expr}
theorem qgi{pins:List (Addr×Obj)}{σ : St}{H:Hp}{s:Shared}(I:Inv X pins σ H s): sysModules<s.heap.objs.size:=
 Nat.lt_trans (by decide) (I.mod.glob.keeps I.bk).lt
def q19(o1 o2:D->D->Option D)(a b c:FE): FE:=fun ρ =>(a ρ).bind fun x=>(b ρ).bind fun y=>(o1 x y).bind fun r=>(isB r).bind fun q=>if q then(c ρ).bind fun z=>o2 y z else some (.bl false)
def q4q(o1 o2:D->D->Option D)(a b c:FE): FT:=fun ρ =>(q19 o1 o2 a b c ρ).bind isB
theorem q9w{o1 o2:D->D->Option D}{σ : St}{H:Hp}{Q:VK}(h:tD X.K (q19 o1 o2 f g k) σ H Q): q79 (rD X.K o1) (rD X.K o2) (tD X.K f) (tD X.K g) (tD X.K k) σ H Q:=by
 obtain⟨F0,H0,F, ρ,d,r,hf,q⟩:=h;obtain⟨x,e1,hf1⟩:=g0.mp hf;obtain⟨y,e2,hf2⟩:=g0.mp hf1;obtain⟨z,e3,hf3⟩:=g0.mp hf2;obtain⟨kq,e4,hf4⟩:=g0.mp hf3;refine⟨F0,H0,F, ρ,x,r,e1,fun v F1 H1 g1 r1=>⟨F0,H0,F1, ρ,y,r.grow g1,e2,fun u F2 H2 g2 r2=>⟨F2,x,y,z,g2.fh,r1.mono g2.ff,r2,e3,fun w F3 H3 g3 r3=>?_⟩⟩⟩;have ez:=q3u e4;subst ez;refine⟨kq,rep_bl.mp r3,?_⟩;cases kq with
 | false=>
  rw [mf gx] at hf4 ⊢;cases hf4;exact q _ F3 H3 (g1.trans (g2.trans g3)) (rep_bl.mpr rfl)
 | true=>
  rw [gu rfl] at hf4 ⊢;obtain⟨zz,e5,e6⟩:=g0.mp hf4;exact⟨F0,H0,F3, ρ,zz,r.grow (g1.trans (g2.trans g3)),e5,fun w' F4 H4 g4 r4=>⟨F4,y,zz,d,g4.fh,(r2.mono g3.ff).mono g4.ff,r4,e6,fun w5 F5 H5 g5 r5=>q w5 F5 H5 ((g1.trans (g2.trans g3)).trans (g4.trans g5)) r5⟩⟩
theorem qeh{op op':CmpOp}{o1 o2:D->D->Option D}(h1:OpR X (compareOp op) (rD X.K o1))(h2:OpR X (compareOp op') (rD X.K o2))(ha:PE X a (tD X.K f))(hb:PE X b (tD X.K g))(hc:PE X c (tD X.K k))
  (hm:lastMarks [op,op'] [b,c]=false:=by with_unfolding_all rfl):PE X (.Compare a [op,op'] [b,c] pos) (tD X.K (q19 o1 o2 f g k)):=
 ze (qdr h1 h2 ha hb hc hm) fun σ H Q h=>q9w h
theorem qei{op op':CmpOp}{o1 o2:D->D->Option D}(h1:OpR X (compareOp op) (rD X.K o1))(h2:OpR X (compareOp op') (rD X.K o2))(ha:PE X a (tD X.K f))(hb:PE X b (tD X.K g))(hc:PE X c (tD X.K k))
  (hm:lastMarks [op,op'] [b,c]=false:=by with_unfolding_all rfl):PT X (.Compare a [op,op'] [b,c] pos) (tDT X.K (q4q o1 o2 f g k)):=
 q4e (qds h1 h2 ha hb hc hm) fun σ H Q ⟨F0,H0,F, ρ,d,r,hf,q⟩=>by
  obtain⟨x,e1,e2⟩:=g0.mp hf;have ex:=q3u e2;subst ex;refine q9w ⟨F0,H0,F, ρ,_,r,e1,fun v F1 H1 g1 r1=>⟨d,rep_bl.mp r1,q F1 H1 g1⟩⟩
end
theorem q5f:fillsNumberSlot (.type "tuple") "mul" = pure false:=
 PySem.fillsNumberSlot_seq (id:="tuple.__mul__") (r:=some (.builtin "tuple.__rmul__")) tu.lookup (by decide +kernel) F.slot_tuple_rmul.lookup (by decide +kernel)
theorem qav:seqRepeat? (.type "tuple")=pure (some (.builtin "tuple.__mul__")):=by
 unfold seqRepeat?;rw [PySem.seqSlot_of (T:="tuple") (name:="__mul__") tu.lookup (by decide +kernel),PySem.seqSlot_of (T:="tuple") (name:="__rmul__") F.slot_tuple_rmul.lookup (by decide +kernel)]
 rfl
theorem qej(i:Int)(t:Tok)(l:Addr)(xs:Array Value)(n:Nat)(dd:Option Addr)(sl:Array (Option Value)):
  Meets (Builtin.«int.__rmul__» ⟨[.int i t,.ref l],[]⟩) (fun _ R s=>s.heap.get? l=some {cls:=.type "tuple",dict:=dd,data:=.seq xs n,slots:=sl}/\R (.ok (.ret Value.notImplemented)) s):=
 .of_wp fun prog w A R s h=>by
  obtain⟨hp,g,d,tk,os⟩:=s;obtain⟨hl,h⟩:=h
  wp_walk
  exact⟨_,rfl,h⟩
theorem q7t(i:Int)(t:Tok)(l:Addr)(xs:Array Value)(n:Nat)(dd:Option Addr)(sl:Array (Option Value))(h0:¬(decide (i < -(2 ^ 63)) || decide (i>=2 ^ 63))=true)(h1:(xs.isEmpty || i==1)=true):
  Meets (Builtin.«tuple.__mul__» ⟨[.ref l,.int i t],[]⟩) (fun _ R s=>s.heap.get? l=some {cls:=.type "tuple",dict:=dd,data:=.seq xs n,slots:=sl}/\R (.ok (.ret (.ref l))) s):=
 .of_wp fun prog w A R s h=>by
  obtain⟨hp,g,d,tk,os⟩:=s;obtain⟨hl,h⟩:=h;have f1:=g13;have f2:=ub
  wp_walk using n4 hl
  refine g07 (m8 h0) ?_
  wp_walk using n4 hl
  exact⟨_,rfl,h⟩
theorem q7u(i:Int)(t:Tok)(l:Addr)(xs:Array Value)(n:Nat)(dd:Option Addr)(sl:Array (Option Value))(h0:¬(decide (i < -(2 ^ 63)) || decide (i>=2 ^ 63))=true)(h1:¬(xs.isEmpty || i==1)=true)(h2:(decide (i<=0) || xs.isEmpty)=true):
  Meets (Builtin.«tuple.__mul__» ⟨[.ref l,.int i t],[]⟩) (fun _ R s=>s.heap.get? l=some {cls:=.type "tuple",dict:=dd,data:=.seq xs n,slots:=sl}/\R (.ok (.ret (.ref s.heap.objs.size))) {s with heap:=s.heap.push {cls:=.type "tuple",data:=.seq #[]} }):=
 .of_wp fun prog w A R s h=>by
  obtain⟨hp,g,d,tk,os⟩:=s;obtain⟨hl,h⟩:=h;have f1:=g13;have f2:=ub
  wp_walk using n4 hl
  refine g07 (m8 h0) ?_
  wp_walk using n4 hl
  exact⟨_,rfl,h⟩
theorem q7v(i:Int)(t:Tok)(l:Addr)(xs:Array Value)(n:Nat)(dd:Option Addr)(sl:Array (Option Value))(h0:¬(decide (i < -(2 ^ 63)) || decide (i>=2 ^ 63))=true)(h1:¬(xs.isEmpty || i==1)=true)(h2:¬(decide (i<=0) || xs.isEmpty)=true)
  (h3:¬((xs.size:Int)*i>(2 ^ 63-1) / 8)) (h4:¬Builtin.Tuple.tupleTooMany ((xs.size:Int)*i)=true) (h5:((List.replicate i.toNat xs).foldl (· ++ ·) #[]).size<=sizeLine) :
  Meets (Builtin.«tuple.__mul__» ⟨[.ref l,.int i t],[]⟩) (fun _ R s=>s.heap.get? l=some {cls:=.type "tuple",dict:=dd,data:=.seq xs n,slots:=sl}/\R (.ok (.ret (.ref s.heap.objs.size))) {s with heap:=s.heap.push {cls:=.type "tuple",data:=.seq ((List.replicate i.toNat xs).foldl (· ++ ·) #[])} }):=
 .of_wp fun prog w A R s h=>by
  obtain⟨hp,g,d,tk,os⟩:=s;obtain⟨hl,h⟩:=h;have f1:=g13;have f2:=ub
  wp_walk using n4 hl
  refine g07 (m8 h0) ?_
  wp_walk using n4 hl
  refine g07 (m8 h3) ?_
  wp_walk using n4 hl
  exact⟨_,rfl,h⟩
theorem q7w(xs:Array Value): ∀(n:Nat) (acc:Array Value),((List.replicate n xs).foldl (· ++ ·) acc).toList=acc.toList++(List.replicate n xs.toList).flatten
 | 0,acc=>by simp
 | n+1,acc=>by
  rw [p8,u4,q7w xs n (acc++xs),p8,mv,Array.toList_append,mz]
theorem q69(xs:List Value)(n:Nat): (List.replicate n xs.toArray).foldl (· ++ ·) #[]=(List.replicate n xs).flatten.toArray:=by
 apply Array.toList_inj.mp;rw [q7w];simp
section
variable{prog:Program}{w:World}{A:Around}{E:Value->Shared->Prop}{s:Shared}
theorem qgj{t:Addr}{vs:List Value}{i:Int}{u:Tok}{Q:Value->Shared->Prop}(ht:IsTup s.heap t vs.toArray)(h0 : -(2 ^ 62)<i)(h1:i<2 ^ 62)(hz:vs.length*i.toNat<=1000000)
  (q1:(vs=[]\/i=1)->Q (.ref t) s) (q2:¬(vs=[]\/i=1)->Q (.ref s.heap.objs.size) {s with heap:=s.heap.push {cls:=.type "tuple",data:=.seq (List.replicate i.toNat vs).flatten.toArray} }) :
  wpAny (model prog w) A (binaryOp .Mult (.ref t) (.int i u)) Q E s:=by
 obtain⟨⟨cls,dd,data,sl⟩,ho,hc,n,hd⟩:=id ht;simp only at hc hd;subst hc hd;have ty:s.TypeIs (.ref t) "tuple" :=⟨_,ho,rfl⟩
 have b0:¬(decide (i < -(2 ^ 63)) || decide (i>=2 ^ 63))=true:=by
  simp only [g06,g0r,not_or]
  constructor <;> lia
 refine wpAny_binaryOp_repeat_ref (T:="tuple") (U:="int") (by decide) ty (fun s'=>typeIs_int s' i u) q5f F.fills_int_mul F.slot_int_rmul qav F.slot_int_index.lookup
  (tq F.slot_int_rmul (typeIs_int s i u) F.entry_int_rmul (F.args_int_rmul_2 _ _) (qej i u t vs.toArray n dd sl) ⟨ho,rfl,ty,?_⟩)
 have em:vs.toArray.isEmpty=true↔vs=[]:=by simp
 by_cases c1:(vs.toArray.isEmpty || i==1)=true
 ·have c1':vs=[]\/i=1:=by simpa using c1
  exact tq tu ty g0s (g0n _ _) (q7t i u t vs.toArray n dd sl b0 c1) ⟨ho,q1 c1'⟩
 ·have c1':¬(vs=[]\/i=1):=by simpa using c1
  have q:=q2 c1'
  by_cases c2:(decide (i<=0) || vs.toArray.isEmpty)=true
  ·have i0:i<=0:=by
    rcases g06 _ _ ▸ c2 with z|z
    ·exact t9 z
    ·exact absurd (.inl (em.mp z)) c1'
   have e:(List.replicate i.toNat vs).flatten.toArray = #[]:=by
    rw [show i.toNat=0 by lia];rfl
   rw [e] at q;exact tq tu ty g0s (g0n _ _) (q7u i u t vs.toArray n dd sl b0 c1 c2) ⟨ho,q⟩
  ·have c2':0<i:=by
    have:¬i<=0:=fun z=>c2 (by rw [m9 z];rfl);lia
   have ei:(vs.toArray.size:Int)*i=((vs.length*i.toNat:Nat):Int):=by
    rw [Int.natCast_mul,ng (by lia),gc]
   have el:(List.replicate i.toNat vs).flatten.length=vs.length*i.toNat:=by
    rw [List.length_flatten,List.map_replicate,g1i,Nat.mul_comm]
   rw [<- q69] at q;refine tq tu ty g0s (g0n _ _) (q7v i u t vs.toArray n dd sl b0 c1 c2 ?_ ?_ ?_) ⟨ho,q⟩
   ·rw [ei];lia
   ·rw [ei]
    unfold Builtin.Tuple.tupleTooMany;have:sizeLine=16777216:=nv;rw [this,g0r];lia
   ·rw [q69,gc,el]
    exact xf hz
end
section
variable{X:Cx}
def qek:D->D->Option D
 | .tup xs,.int n=>if decide (-(2 ^ 62)<n)&&decide (n<2 ^ 62)&&decide (xs.length*n.toNat<=lim) then some (.tup (List.replicate n.toNat xs).flatten) else none
 | _,_=>none
theorem q7x{xs:List V}{us:List Value}(r:Vals xs us): ∀n:Nat,Vals (List.replicate n xs).flatten (List.replicate n us).flatten
 | 0=>.nil
 | n+1=>by rw [p8,p8,mv,mv];exact r.append (q7x r n)
theorem q7y{K:Frag}{H:Hp}{ds:List D}{xs:List V}(r:RepL K H ds xs): ∀n:Nat,RepL K H (List.replicate n ds).flatten (List.replicate n xs).flatten
 | 0=>.nil
 | n+1=>by rw [p8,p8,mv,mv];exact r.append (q7y r n)
theorem qj2:OpR X (binaryOp .Mult) (rD X.K qek):=fun pins s σ H x y v u Q I rx ry ⟨F,d1,d2,d,q1,q2,q3,q4,q5⟩=>by
 unfold qek at q4
 split at q4
 ·rename_i ds n
  split at q4
  ·rename_i hc
   cases q4;simp only [mj,g0r] at hc;obtain⟨⟨c1,c2⟩,c3⟩:=hc;obtain⟨p,xs,rfl,z1,z2⟩:=rep_tup.mp q2;cases rep_int.mp q3;cases rx;obtain⟨t,rfl⟩:=ry;obtain⟨its,r1,p1,hz⟩:=I.tuple (qr q1 z1);have lx:=r1.length;have ld:=z2.length;refine qgj p1 c1 c2 (by rw [<- lx, <- ld];exact c3) (fun hq=>?_) fun hq=>?_
   ·have e:(List.replicate n.toNat ds).flatten=ds:=by
     rcases hq with z|z
     ·have:ds=[]:=List.length_eq_zero_iff.mp (by rw [ld,lx,z];rfl)
      subst this;simp
     ·subst z;simp [List.replicate]
    rw [e] at q5;exact⟨.ref p,H,I,rfl,q5 _ F H (.refl q1) q2⟩
   ·have hn:H s.heap.objs.size=none:=I.hok.fresh (gm _)
    have rr:=q7x r1 n.toNat;have el:(List.replicate n.toNat xs).flatten.length=ds.length*n.toNat:=by
     rw [List.length_flatten,List.map_replicate,g1i,Nat.mul_comm,ld]
    refine⟨.ref s.heap.objs.size,_,I.laid (t':=s.toks) (o:=.tup (List.replicate n.toNat xs).flatten) (fun b ob q=>gb _ q) (gm _) ⟨by rw [el];exact xf c3,_,rr,TupX.new _ _⟩,rfl,?_⟩;have gn:=Grow.new (o:=.tup (List.replicate n.toNat xs).flatten) q1 hn;exact q5 _ _ _ gn (rep_tup.mpr ⟨_,_,rfl,SqT.of qw,(q7y z2 n.toNat).mono gn.ff⟩)
  ·cases q4
 ·cases q4
def zv:D->D->Option D:=fun x y=>(oMul x y).or (qek x y)
theorem j5:OpR X (binaryOp .Mult) (rD X.K zv):=q7f qii qj2
end
section
variable{prog:Program}{w:World}{A:Around}{E:Value->Shared->Prop}{s:Shared}
end
section
variable{X:Cx}{pos:Pos}{elts:List Expr}{x1:Nat}{tp:Pos}
end
section
variable{X:Cx}{st:Stmt}
def q27:FS:=fun _=>none
theorem q1l:PS X st (tDS X.K q27):=fun pins s σ H D I ⟨F0,H0,F, ρ,fl, ρ',r,hf,q⟩=>by cases hf
def insI(x:Int): List Int->List Int
 | []=>[x]
 | y :: r=>if x<=y then x :: y :: r else y :: insI x r
def sortI:List Int->List Int
 | []=>[]
 | x :: r=>insI x (sortI r)
theorem insI_perm(x:Int): ∀l,(insI x l).Perm (x :: l)
 | []=>.refl _
 | y :: r=>by
  unfold insI
  split
  ·exact .refl _
  ·exact((insI_perm x r).cons y).trans (.swap x y r)
theorem sortI_perm:∀l,(sortI l).Perm l
 | []=>.refl _
 | x :: r=>(insI_perm x _).trans ((sortI_perm r).cons x)
theorem q6a(x:Int): ∀ {l:List Int},l.Pairwise (· <= ·)->(insI x l).Pairwise (· <= ·)
 | [],_=>.cons (fun _ h=>by cases h) .nil
 | y :: r,.cons h1 h2=>by
  unfold insI
  split
  ·rename_i hxy
   refine .cons (fun z hz=>?_) (.cons h1 h2);rcases me.mp hz with rfl|hz
   ·exact hxy
   ·exact Int.le_trans hxy (h1 z hz)
  ·rename_i hxy
   refine .cons (fun z hz=>?_) (q6a x h2);rcases me.mp ((insI_perm x r).mem_iff.mp hz) with rfl|hz
   ·omega
   ·exact h1 z hz
theorem q4r:∀l,(sortI l).Pairwise (· <= ·)
 | []=>.nil
 | x :: r=>q6a x (q4r r)
theorem q28:∀ {l m:List Int},l.Perm m->l.Pairwise (· <= ·)->m.Pairwise (· <= ·)->l=m
 | [],m,p,_,_=>(p.nil_eq).symm ▸ rfl
 | x :: l,[],p,_,_=>by cases p.length_eq
 | x :: l,y :: m,p,.cons h1 h2,.cons k1 k2=>by
  have e:x=y:=by
   have hx:x∈y :: m:=p.mem_iff.mp gi;have hy:y∈x :: l:=p.mem_iff.mpr gi;rcases me.mp hx with e|hx
   ·exact e
   ·rcases me.mp hy with e|hy
    ·exact e.symm
    ·exact Int.le_antisymm (h1 y hy) (k1 x hx)
  subst e;rw [q28 (List.perm_cons _ |>.mp p) h2 k2]
theorem q7z{l m:List Int}(p:m.Perm l)(h:m.Pairwise (· <= ·)): m=sortI l:=q28 (p.trans (sortI_perm l).symm) h (q4r l)
def yx:List D->Option (List D)
 | [.lst ds]=>(q32 ds).bind fun ns=>if ns.length<64 then some ((sortI ns).map .int) else none
 | _=>none
theorem kj:∀ {us:List Value} {ns:List Int},IntsAre us ns->Vals (ns.map V.int) us
 | _,_,.nil=>.nil
 | _,_,.cons n t h=>.cons ⟨t,rfl⟩ (kj h)
theorem boot_sorted:bootBuiltins "sorted" = some (.builtin "sorted"):=by decide +kernel
theorem qco(_hc:X.calm=true): zm X (.builtin "sorted") (rCL X.K yx):=fun pins s σ H xs us Q I rv ⟨F,ds,es,fh,rl,ho,q⟩=>by
 unfold yx at ho
 split at ho
 ·obtain⟨ns,h1,h2⟩:=g0.mp ho
  split at h2
  ·rename_i h64
   cases h2;obtain⟨x,rfl,rx⟩:=rep1 rl;obtain⟨a,ys,rfl,k1,k2⟩:=rep_lst.mp rx;obtain⟨u,rfl,ru⟩:=vals1 rv;cases ru;cases q4n h1;have ey:=RepL.ints.mp k2;subst ey;obtain⟨its,r1,p1,_⟩:=I.list (fh.seq k1);have i1:IntsAre its ns:=intsAre_of r1;have li:its.length=ns.length:=i1.length;refine sorted_ints p1.isList i1 (by rw [li];exact h64) fun out ns' a1 a2 a3=>?_;obtain⟨e,he⟩:=sortedAll_at s.heap its out;have en:=q7z a2 a3;subst en;have hn:H (s.heap.objs.size+1)=none:=I.hok.fresh (g0j _);have ll:(sortI ns).length=ns.length:=(sortI_perm ns).length_eq;have vo:Vals ((sortI ns).map V.int) out.toList:=kj a1;refine⟨.ref (s.heap.objs.size+1),_,I.laid (t':=s.toks) (a:=s.heap.objs.size+1) (o:=.lst ((sortI ns).map V.int)) (fun b ob q=>sortedAll_old q) (g0j _) ⟨by rw [g7,ll];exact xf (u6 (gw h64 (by decide))),out.toList,e,vo,?_⟩,rfl,?_⟩
   ·rw [Array.toArray_toList];exact he
   ·exact q _ _ F _ (Grow.own fh hn) (fh.free hn) hn qw (RepL.ints.mpr rfl)
  ·cases h2
 ·cases ho
end
end DL
namespace Srt
end Srt
namespace DL
open PySem PySem.Spec PyProof.Rows L2 Srt PySem.W
variable[Lam][Pin]
section
variable{X:Cx}
end
end DL
namespace DL
open PySem PySem.Spec PyProof.Rows L2
variable[Lam][Pin]
section
variable{X:Cx}
end
end DL
namespace DL
open PySem PySem.Spec PyProof.Rows L2
section
variable{prog:Program}{w:World}{A:Around}{E:Value->Shared->Prop}
end
variable[Lam][Pin]
section
variable{X:Cx}{es:List Expr}{pos:Pos}
end
end DL
namespace DL
open PySem PySem.Spec PyProof.Rows L2
variable[Lam][Pin]
section
variable{X:Cx}{pins:List (Addr×Obj)}{σ : St}{F H:Hp}{s:Shared}
end
end DL
namespace Rv
open PySem PyProof.Rows
section
variable{prog:Program}{w:World}{A:Around}{E:Value->Shared->Prop}{s:Shared}{r:Addr}{a b c:Int}{t u v:Tok}{n:Nat}
theorem q94{Q:List Value->Shared->Prop}(hh:A.handled=none)(hr:IsRange s.heap r a b c t u v)(hsmall:Builtin.Range.small a b c=true)(hn:Builtin.Range.rangeSize a b c=n)(hlen:n<=2 ^ 24)
  (hQ:∀(h':Heap) tk acc,(∀b o,s.heap.get? b=some o->h'.get? b=some o)->ItemsOf (fun i v=>∃t,v=.int (a+i*c) t) acc n->Q acc.toList {s with heap:=h',toks:=tk}):wpAny (model prog w) A (collect (.ref r)) Q E s:=by
 unfold collect;refine g9 (wpAny_runValue (ni F.entry_proto_collect ?_));rw [n5 F.plain_proto_collect _];show wpAny _ A.in1 (newList [] >>= fun l=>again (.builtin "list.__iadd__" ⟨[l,.ref r],[]⟩)) _ _ s;refine g9 (nc ?_);refine gd ⟨ur ui _,ni F.entry_list_iadd ?_⟩;rw [n5 ui _];have hS₁:(s.heap.push {cls:=.type "list",data:=.seq ([]:List Value).toArray}).get? s.heap.objs.size=some {cls:=.type "list",data:=.seq ([]:List Value).toArray}:=m4 _ rfl;show wpAny _ A.in1 (Builtin.List.listExtendWith (.ref s.heap.objs.size) (.ref r) (.ref s.heap.objs.size)) _ _ _;refine wpAny_extend_range (R:=fun r s'=>match r with
  | .ok (.ret v)=>wpAny (model prog w) A (match v with
   | .ref a=>do
    match(<- load a).data with
    | .seq xs _=>pure xs.toList
    | _=>unsupported "internal:collect"
   | _=>unsupported "internal:collect") Q E s'
  | .ok _=>False
  | .error e=>E e s') (s:={s with heap:=s.heap.push {cls:=.type "list",data:=.seq ([]:List Value).toArray} }) hh (gb _ hr) hsmall hn hlen s.heap.objs.size _ 0 hS₁ fun h' tk acc' c' hk hS' hacc=>?_
 show wpAny _ A (load s.heap.objs.size >>= _) _ _ _;refine g9 (wpAny_load hS' ?_);exact gd (hQ h' tk acc' (fun b o e=>hk b o (mh (gp e)) (gb _ e)) hacc)
theorem q5g{Q₁:Value->Shared->Prop}(hh:A.handled=none)(hr:IsRange s.heap r a b c t u v)(hsmall:Builtin.Range.small a b c=true)(hn:Builtin.Range.rangeSize a b c=n)(hlen:n<=2 ^ 24)
  (h:∀(h':Heap) tk acc,(∀b o,s.heap.get? b=some o->h'.get? b=some o)->ItemsOf (fun i v=>∃t,v=.int (a+i*c) t) acc n->Q₁ (.ref h'.objs.size) {s with heap:=h'.push {cls:=.type "tuple",data:=.seq acc},toks:=tk}) :
  codeAny (model prog w) A (.call (.builtin "tuple.__new__") ⟨[.type "tuple",.ref r],[]⟩) (wants Q₁ E) s:=by
 refine g1e ?_;show wpAny _ A.in1 (do checkBuiltinCall "tuple.__new__" ⟨[.type "tuple",.ref r],[]⟩;again (.builtin "tuple.__new__" ⟨[.type "tuple",.ref r],[]⟩)) _ _ s;refine g9 (wpAny_of_eq (F.newCall_tuple_1 _) (gd ⟨ur uj _,ni F.entry_tuple_new ?_⟩));rw [n5 uj _];have hsub:=sub_tuple_self;have hinit:=init_tuple_lookup;have hmh:=madeHere_tuple;have hTI:s.TypeIs (.ref r) "range" :=⟨_,hr,rfl⟩
 wp_walk using g02 hTI,q94 (A:=A.in1) hh hr hsmall hn hlen
 intro h' tk acc hk hacc;show wpAny _ _ (Builtin.Tuple.tupleExact acc.toList.toArray >>= fun v=>ret v) _ _ _;unfold Builtin.Tuple.tupleExact;refine g9 (nc ?_ (by show acc.toList.toArray.size<=sizeLine;simp only [Array.toArray_toList];rw [hacc.1,nv];omega));refine gd ?_;have e:acc.toList.toArray=acc:=by simp
 rw [e];exact h h' tk acc hk hacc
theorem q5h{Q:Value->Shared->Prop}(hh:A.handled=none)(hr:IsRange s.heap r a b c t u v)(hsmall:Builtin.Range.small a b c=true)(hn:Builtin.Range.rangeSize a b c=n)(hlen:n<=2 ^ 24)
  (hQ:∀(h':Heap) tk acc,(∀b o,s.heap.get? b=some o->h'.get? b=some o)->ItemsOf (fun i v=>∃t,v=.int (a+i*c) t) acc n->Q (.ref h'.objs.size) {s with heap:=h'.push {cls:=.type "tuple",data:=.seq acc},toks:=tk}) :
  wpAny (model prog w) A (call (.type "tuple") [.ref r]) Q E s:=by
 refine callType_codes (Q₁:=fun obj s₁=>s₁.TypeIs obj "tuple" /\ Q obj s₁) tm (F.typeCall_tuple_1 _) F.entry_object_init
  (q5g (A:=A.in1) hh hr hsmall hn hlen fun h' tk acc hm hacc=>⟨⟨_,m4 _ rfl,rfl⟩,hQ h' tk acc hm hacc⟩) fun obj s₁ h₁=>?_
 exact⟨h₁.1,F.args_object_init_2 obj _,object_init_meets tm.init.lookup tm.made (by decide) prog w A.in1 _ s₁ ⟨h₁.1,rfl,h₁.2⟩⟩
end
end Rv
namespace DL
open PySem PySem.Spec PyProof.Rows L2
variable[Lam][Pin]
section
variable{X:Cx}{e:Expr}{pos:Pos}{f:FE}
end
section
variable{X:Cx}{e ie:Expr}{pos:Pos}{f g:FE}
def q6z(f:FE): FE:=fun ρ =>(f ρ).bind fun d=>match d with
 | .int j=>if decide (0<=j)&&decide (j<=1000) then some (.tup (qp 0 j.toNat)) else none
 | _=>none
omit [Lam] [Pin] in
theorem qel{acc:Array Value}{n:Nat}(h:ItemsOf (fun i v=>∃t,v=.int (0+(i:Int)*1) t) acc n): Vals ((List.range n).map fun i:Nat=>V.int (i:Int)) acc.toList:=by
 have key:∀(l:List Value) (k:Nat),(∀(j:Nat) (v:Value),l[j]? = some v->∃t,v=.int ((k+j:Nat):Int) t)->Vals ((List.range' k l.length).map fun i:Nat=>V.int (i:Int)) l:=by
  intro l
  induction l with
  | nil=>intro k _;exact .nil
  | cons a l ih=>
   intro k hk;rw [gz,List.range'_succ,gy];obtain⟨t,ht⟩:=hk 0 a rfl;refine .cons ⟨t,by rw [ht];simp⟩ (ih (k+1) fun j v hv=>?_);obtain⟨t,ht⟩:=hk (j+1) v hv;exact⟨t,by rw [ht];congr 1;lia⟩
 have hl:acc.toList.length=n:=by rw [pk];exact h.1
 have:=key acc.toList 0 fun j v hv=>by
  obtain⟨t,ht⟩:=h.2 j v (by simpa using hv);exact⟨t,by rw [ht];congr 1;lia⟩
 rw [hl, <- List.range_eq_range'] at this;exact this
theorem qcp{a:Expr}{p p2 q2:Pos}(hc:X.calm=true)(hgt:Gl X "tuple")(hmt:X.mg "tuple" = none)(hgr:Gl X "range")(hmr:X.mg "range" = none)(ha:PE X a (tD X.K f))
  (s1:starEach [a] X.env=[(false,eval a X.env)]:=by first|exact wx rfl|rfl) (s2:starEach [.Call (.Name "range" p2) [a] [] q2] X.env=[(false,eval (.Call (.Name "range" p2) [a] [] q2) X.env)]:=by first|exact wx rfl|rfl) :
  PE X (.Call (.Name "tuple" p) [.Call (.Name "range" p2) [a] [] q2] [] pos) (tD X.K (q6z f)):=by
 intro pins s σ H Q I ⟨F0,H0,F, ρ,d,r,hf,q⟩;obtain⟨d',h1,h2⟩:=g0.mp hf
 split at h2
 case h_2=>cases h2
 rename_i j
 split at h2
 case isFalse=>cases h2
 rename_i hj;obtain⟨j0,j1⟩:=yu hj;cases h2;refine Call_ (q02 I hgt hmt DL.boot_tuple (nt ?_ (by rw [s2];rfl) (by rfl)));rw [s2];refine Calls.spliced_cons ?_;have hp:PA X [a] (tDA X.K (qa f qg)):=q9q (hs:=by rw [s1];rfl) ha qf;refine Call_ (q02 I hgr hmr boot_range (nt (thn (hp q2 pins s σ H (fun vs H1=>∃F',Grow F H F' H1/\RepL X.K F' [.int j] vs) I ⟨F0,H0,F, ρ,[.int j],r,by simp only [qa,qg,h1,g6,m6],fun vs F' H' g' r'=>⟨F',g',r'⟩⟩) fun us s1' ⟨vs,H1,I1,r1,F',g',q1⟩=>?_) (by rw [s1];rfl) (by rfl)));obtain⟨v1,t,rfl,e1,e2⟩:=q1.cons_inv;cases e2.nil_inv;obtain⟨u1,rfl,e3⟩:=vals1 r1;cases rep_int.mp e1;obtain⟨tk,rfl⟩:=e3;refine call_range_1 (Calls.spliced_nil ?_);have hn:Builtin.Range.rangeSize 0 j 1=((j.toNat:Nat):Int):=by rw [rangeSize_one];split <;> lia
 refine Rv.q5h (s:={s1' with heap:=s1'.heap.push {cls:=.type "range",data:=.fields #[.int 0 s1'.toks,.int j tk,.int 1 (s1'.toks+1)]},toks:=s1'.toks+1+1}) (I.ok.hd hc) (IsRange.new ..) (small_one (by decide) (by decide) (by lia) (by lia)) hn (by lia) fun h' tk' acc hk hacc=>?_;have hkp:∀b o,s1'.heap.get? b=some o->h'.get? b=some o:=fun b o e=>hk b o (gb _ e);have I2:Inv X pins σ H1 {s1' with heap:=h',toks:=tk'}:=I1.kept (t':=tk') hkp;have rv:=qel hacc;have I3:Inv X pins σ (upd H1 h'.objs.size (.tup ((List.range j.toNat).map fun i:Nat=>V.int (i:Int)))) {s1' with heap:=h'.push {cls:=.type "tuple",data:=.seq acc},toks:=tk'}:=
  I2.laid (t':=tk') (fun b o e=>gb _ e) (gm _) (show ObjOk X.prog X.w _ _ _ (.tup _) from⟨by rw [g7,uk,nv];lia,acc.toList,rv,by
   have e:acc=acc.toList.toArray:=by simp
   rw [e];exact TupX.new _ _⟩)
 have g2:Grow F' H1 (upd F' h'.objs.size (.tup ((List.range j.toNat).map fun i:Nat=>V.int (i:Int)))) (upd H1 h'.objs.size (.tup ((List.range j.toNat).map fun i:Nat=>V.int (i:Int)))):=Grow.new g'.fh (I2.hok.fresh (gm _));have rl:RepL X.K (upd F' h'.objs.size (.tup ((List.range j.toNat).map fun i:Nat=>V.int (i:Int)))) (qp 0 j.toNat) ((List.range j.toNat).map fun i:Nat=>V.int (i:Int)):=by
  have e:qp 0 j.toNat=((List.range j.toNat).map fun i:Nat=>(i:Int)).map D.int:=by
   unfold qp;rw [gj];apply mm;intro i _;simp only [Function.comp,Int.zero_add]
  rw [e];exact RepL.ints.mpr (by rw [gj];rfl)
 exact⟨.ref h'.objs.size,_,I3,rfl,q _ _ _ (g'.trans g2) (rep_tup.mpr ⟨_,_,rfl,SqT.of qw,rl⟩)⟩
end
end DL
namespace Fl
open PySem
section
variable{M:Model}{A:Around}{E:Value->Shared->Prop}{s:Shared}{base:Heap}{env:Env}{outer l:List Env}{L e:Addr}{P:Obj->Prop}{Q:Unit->Shared->Prop}{fl:Value}
end
end Fl
namespace DL
open PySem PySem.Spec PyProof.Rows L2
section
variable{P:Program}{w:World}{K:Frag}{mg:Str->Option Value}{base:Heap}{N:List Str}{qual:Str}{scope:Scope}{f:Addr}{cd:Value}{A:Around}{outer:List Env}{s0:Shared}{H0:Hp}{E:XK}
variable{pins:List (Addr×Obj)}{σ : St}{H:Hp}{s:Shared}
end
section
variable{P:Program}{w:World}{K:Frag}{mg:Str->Option Value}{base:Heap}{N:List Str}{qual:Str}{scope:Scope}{f:Addr}{cd:Value}{A:Around}{outer:List Env}{s0:Shared}{H0:Hp}{E:XK}
end
section
variable{X:Cx}{pins:List (Addr×Obj)}{σ σ1:St}{H H1:Hp}{s s1:Shared}
end
section
variable{X:Cx}{pins:List (Addr×Obj)}{σ : St}{H:Hp}{s:Shared}
end
end DL
namespace DL
open PySem PySem.Spec PyProof.Rows L2
variable[Lam][Pin]
section
variable{X:Cx}{K:Frag}{F0 H0 F H:Hp}{σ : St}{ρ : Rho}
variable{e:Expr}{pos:Pos}{f:FE}
end
end DL
namespace DL
open PySem
end DL
namespace DL
open PySem PySem.Spec PyProof.Rows L2
variable[Lam][Pin]
section
variable{P:Program}{w:World}{K:Frag}{mg:Str->Option Value}{base:Heap}{N:List Str}{qual:Str}{scope:Scope}{f:Addr}{cd:Value}{A:Around}{outer:List Env}{s0:Shared}{H0:Hp}{E:XK}
end
abbrev Flds:=List (Str×D)
section
omit [Lam] [Pin]
variable{K:Frag}{F:Hp}
end
section
omit [Lam] [Pin]
end
structure OB0(K:Frag)(F H H0:Hp)(a:Addr)(o:Str×Flds): Prop where
 ex:∃C dx vs,H a=some (.ins C dx vs)/\PySem.W.nsIn K mainGlobals o.1=some (some (.ref C))/\FsR K F o.2 vs
 f:F a=none
 z:H0 a=none
section
variable{K:Frag}{F0 H0 F H F' H':Hp}{σ : St}{ρ : Rho}
end
section
variable{X:Cx}{st:Stmt}{e o:Expr}{es:List Expr}{pos apos p px:Pos}{f g:FE}{fa:FA}
abbrev FM:=Rho->Option (D×Rho)
abbrev FAM:=Rho->Option (List D×Rho)
abbrev FTM:=Rho->Option (Bool×Rho)
variable{rest:List Expr}{a b:Expr}{t u:FTM}
end
end DL
namespace L2
open PySem PySem.Spec PyProof.Rows
section
variable{X:Cx}{CX:CXT}{k:Nat}{f C:Addr}{fd:FuncData}{ps ks:List Str}{sp:Sp}{E:XK}{x:Str}{p pos:Pos}{e:Expr}{es:List Expr}{kws:List Keyword}{t tk:TA}{g:List Value->List Value->List Value}{gV:List V->List V->List V}
end
end L2
namespace DL
open PySem PySem.Spec PyProof.Rows L2
variable[Lam][Pin]
section
variable{K:Frag}{F0 H0 F H F' H':Hp}{σ : St}{ρ : Rho}
end
section
variable{X:Cx}{e:Expr}{es:List Expr}{kws:List Keyword}{pos p px spos:Pos}{fa fk:FA}
end
abbrev XV:=Str×Option (Str×Int)
abbrev FX:=Rho->Option (XV×Rho)
section
variable{P:Program}{w:World}{K:Frag}{mg:Str->Option Value}{base:Heap}{N:List Str}{qual:Str}{scope:Scope}{f:Addr}{cd:Value}{A:Around}{outer:List Env}{s0:Shared}{H0:Hp}{E:XK}
variable{st:Stmt}{rest:List Stmt}{u:FS}{v v':FX}{t:FT}{pos:Pos}
end
section
variable{P:Program}{w:World}{K:Frag}{mg:Str->Option Value}{base:Heap}{x qual:Str}{st:Stmt}{dV:Value}{f:Addr}{fd:FuncData}{N ps:List Str}
end
section
variable{P:Program}{w:World}{K:Frag}{mg:Str->Option Value}{base:Heap}{CX:CXT}{k:Nat}{f:Addr}{fd:FuncData}{ps:List Str}{sp sp':Sp}
end
section
variable{M:Model}{A:Around}{E:Value->Shared->Prop}{s:Shared}{K:Frag}{a C C2:Addr}{od:Option Addr}
open PySem.W in
end
section
variable{X:Cx}
variable{C C2:Addr}{cx n:Str}{np hpos:Pos}{b₀:Stmt}{suite:List Stmt}{rest:List ExceptHandler}{ts:TS}{th:Addr->Option Addr->TS}{i:Nat}
end
section
variable{X:Cx}
end
section
variable{X:Cx}{K:Frag}{st:Stmt}{v v':FX}{t:FT}{pos:Pos}{σ0:St}{E:XK}{pins:List (Addr×Obj)}
end
section
variable{X:Cx}
variable{C C2:Addr}{cx n x:Str}{np hpos:Pos}{b₀:Stmt}{suite:List Stmt}{rest:List ExceptHandler}{us:FS}{i:Nat}
end
end DL
namespace DL
open PySem PySem.Spec PyProof.Rows L2
section
variable{prog:Program}{w:World}{A:Around}{E:Value->Shared->Prop}{h:Heap}{g:Array GenState}{d:Drawn}{t:Nat}{os:OsState}
variable{nm q:Str}{C N:Addr}{bs bm:List Value}{hdct:Bool}{sn:List Str}{sub:List Value}{ab:Bool}{col:Option Bool}{dd:Option Addr}{k0 k1 k2 k3 k5:Option Value}
end
section
variable{prog:Program}{w:World}{A:Around}{E:Value->Shared->Prop}{K:PySem.W.Frag}{s:Shared}{x D:Addr}{ox:Obj}{name:Str}{v:Value}
open PySem.W Builtin Builtin.ObjectAttr
end
section
variable{X:Cx}{e:Expr}{pos jp p1 p2 fp:Pos}{j1 j2:Nat}
open PySem.W in
variable{pins:List (Addr×Obj)}{σ : St}{H:Hp}{s:Shared}
end
end DL
namespace DL
open PySem PySem.Spec PyProof.Rows L2
variable[Lam][Pin]
section
variable{X:Cx}
end
section
variable{P:Program}{w:World}{K:Frag}{mg:Str->Option Value}{base:Heap}{x qual:Str}{st:Stmt}{dV:Value}{f:Addr}{fd:FuncData}{N ps:List Str}
end
section
variable{X:Cx}{pos:Pos}
end
section
variable{M:Model}{A:Around}{Ex:Value->Shared->Prop}{env:Env}{nm q:Str}{C N:Addr}{bs bm:List Value}{hdct:Bool}{sn:List Str}{sub:List Value}{ab:Bool}{col:Option Bool}{dd:Option Addr}{k0 k1 k2 k3 k5:Option Value}{newId:String}
end
section
variable{P:Program}{w:World}{K:Frag}{mg:Str->Option Value}{base:Heap}{N:List Str}{qual:Str}{scope:Scope}{f:Addr}{cd:Value}{A:Around}{outer:List Env}{s0:Shared}{H0:Hp}{E:XK}{pos:Pos}
end
section
variable{X:Cx}{pos:Pos}
end
end DL
namespace DL
open PySem PySem.Spec PyProof.Rows L2
section
variable{K:Frag}{F:Hp}{a:Addr}{xs0:List V}{ds:List D}
end
variable[Lam][Pin]
open Classical in
section
variable{K:Frag}{F0 H0 F H F' H':Hp}{σ : St}{ρ ρ1:Rho}{i:Nat}{ds:List D}{a:Addr}{xs:List V}
end
section
variable{X:Cx}{e:Expr}{f:FE}{m:FM}
end
end DL
namespace DL
open PySem PySem.Spec PyProof.Rows L2
variable[Lam][Pin]
section
variable{X:Cx}{K:Frag}{st:Stmt}{rest:List Stmt}{u u1 u2:FS}{i:Nat}{pos p px:Pos}{x:Str}
end
section
variable{P:Program}{w:World}{K:Frag}{mg:Str->Option Value}{base:Heap}{x qual:Str}{st:Stmt}{dV:Value}{f:Addr}{fd:FuncData}{N ps:List Str}
end
section
variable{X:Cx}{e e':Expr}{f:FE}{y:Str}{b:Bool}{t:List (Str×Bool)}
end
section
variable{X:Cx}{pos p:Pos}{σ0:St}{E:XK}{pins:List (Addr×Obj)}
end
section
variable{X:Cx}{a b e:Expr}{es:List Expr}{pos p:Pos}{f g:FM}{fa:FAM}
end
end DL
namespace DL
open PySem PySem.Spec PyProof.Rows L2
open Builtin Builtin.Str
theorem qaw{prog:Program}{w:World}{A:Around}{E:Value->Shared->Prop}{s:Shared}{x y:Str}{t u:Tok}{Q:Value->Shared->Prop}(hy:(y.length==0)=false)
  (hq:∀(l:List (Str×Tok)) (k:Nat),l.map (·.1)=Txt.split x y->Q (.ref s.heap.objs.size) {s with toks:=k,heap:=s.heap.push {cls:=.type "list",data:=.seq (strValues l).toArray} })
  (hsz:x.length<=sizeLine) (hsz2:(partsBetween x (occurrences x y 0 x.length (x.length+1)) y.length).length<=sizeLine) :
  wpAny (model prog w) A (call (.builtin "str.split") [.str x t,.str y u]) Q E s:=by
 cases h1:(decide (x.length<y.length) || decide (strKind x<strKind y))
 ·cases hf:(occurrences x y 0 x.length (x.length+1)).isEmpty
  ·refine tq g14 (g04 _ _ _) g0t (g0o _ _) (meets_str_split_sep x y t u h1 hy hf hsz hsz2) ?_
   show wants Q E _ {s with toks:=_,heap:=s.heap.push {cls:=.type "list",data:=.seq (strsFrom s.toks (partsBetween x (occurrences x y 0 x.length (x.length+1)) y.length)).toArray} };rw [strsFrom_eq];exact hq (numbered s.toks _) _ ((numbered_texts _ _).trans ((mf (g0e h1)).trans (mf (g0e hf))).symm)
  ·exact tq g14 (g04 _ _ _) g0t (g0o _ _) (meets_str_split_not_found x y t u h1 hy hf)
    (hq [(x,t)] s.toks ((mf (g0e h1)).trans (gu hf)).symm)
 ·exact tq g14 (g04 _ _ _) g0t (g0o _ _) (meets_str_split_cannot_occur x y t u h1)
   (hq [(x,t)] s.toks (gu h1).symm)
variable[Lam][Pin]
section
variable{X:Cx}{e o:Expr}{es:List Expr}{pos apos cpos:Pos}{f g:FE}{fa:FA}
theorem q29:∀ {ys:List Str} {its:List Value},Vals (ys.map V.str) its->∃l:List (Str×Tok),its=strValues l/\l.map (·.1)=ys
 | [],its,h=>by cases h;exact⟨[],rfl,rfl⟩
 | y :: ys,its,h=>by
  cases h with
  | cons a b=>
   obtain⟨t,rfl⟩:=a;obtain⟨l,rfl,h2⟩:=q29 b;exact⟨(y,t) :: l,rfl,by rw [gy,h2]⟩
theorem q6b:∀(l:List (Str×Tok)),Vals ((l.map (·.1)).map V.str) (strValues l)
 | []=>.nil
 | p :: l=>.cons ⟨p.2,rfl⟩ (q6b l)
omit [Lam] [Pin] in
theorem q5i:lim<=sizeLine:=by rw [nv];decide
def rSplit:V->List V->Hp->VK->Prop:=fun x xs H Q=>∃i j,x=.str i/\xs=[.str j]/\(j.length==0)=false/\i.length<=sizeLine/\(partsBetween i (occurrences i j 0 i.length (i.length+1)) j.length).length<=sizeLine/\(Txt.split i j).length<=sizeLine/\∀a,H a=none->Q (.ref a) (upd H a (.lst ((Txt.split i j).map V.str)))
theorem qem:MtR X "str.split" rSplit:=by
 intro pins s σ H x xs v us Q I rx rv h;obtain⟨i,j,rfl,rfl,h1,h2,h3,h4,q⟩:=h;obtain⟨t,rfl⟩:=rx;obtain⟨u0,rfl,ru⟩:=rv.one;obtain⟨u,rfl⟩:=ru;refine qaw h1 (fun l k hl=>?_) h2 h3;refine⟨.ref s.heap.objs.size,upd H s.heap.objs.size (.lst ((Txt.split i j).map V.str)),I.laid (t':=k) (fun b o e=>gb _ e) (gm _) ?_,rfl,q _ (I.hok.fresh (gm _))⟩;refine⟨by rw [g7];exact h4,strValues l,0,?_,m4 _ rfl⟩;rw [<- hl];exact q6b l
def q2a(f g:FE): FA:=fun ρ =>(f ρ).bind fun d=>(g ρ).bind fun e=>match d,e with
 | .str i,.str j=>if(j.length==0)=false/\i.length<=lim/\(partsBetween i (occurrences i j 0 i.length (i.length+1)) j.length).length<=lim/\(Txt.split i j).length<=lim then some ((Txt.split i j).map D.str) else none
 | _,_=>none
theorem q2b{K:Frag}{H:Hp}: ∀(ys:List Str),RepL K H (ys.map D.str) (ys.map V.str)
 | []=>.nil
 | y :: ys=>.cons (rep_str.mpr rfl) (q2b ys)
theorem q80{arg:Expr}(ho:PE X o (tD X.K f))(ha:PE X arg (tD X.K g))(hbase:attributeBase o "split" X.env (eval o X.env)=eval o X.env:=by rfl)
  (hfew:((backTo cpos (starEach [arg] X.env)).all (fun x=> !x.1)&&(backToKw cpos (keywordEach [] X.env)).all (fun x=>x.1.isSome)&&decide ([arg].length+([]:List Keyword).length+(if([]:List Keyword).isEmpty then 0 else 1)<30))=true:=by rfl)
  (hline:(apos.endLine==cpos.line)=true:=by rfl) (hs:starEach [arg] X.env=(false,eval arg X.env) :: starEach [] X.env:=by rfl) :
  PE X (.Call (.Attribute o "split" apos) [arg] [] cpos) (tL X.K (q2a f g)):=ze (q4a uq PySem.F.slot_str_split PySem.F.type_str_split qem ho (jt ha vt hs) hbase hfew hline hs rfl) fun σ H Q ⟨F0,H0,F, ρ,ds,r,hf,q⟩=>by
 obtain⟨d,h1,hf⟩:=g0.mp hf;obtain⟨e,h2,h3⟩:=g0.mp hf
 split at h3
 ·rename_i i j
  split at h3
  ·rename_i hc
   cases h3;refine⟨F0,H0,F, ρ,_,r,h1,fun v F1 H1 g1 r1=>?_⟩;cases rep_str.mp r1;refine⟨rfl,F0,H0,F1, ρ,_,r.grow g1,h2,fun u F2 H2 g2 r2=>?_⟩;cases rep_str.mp r2;exact⟨i,j,rfl,rfl,hc.1,ma hc.2.1 q5i,ma hc.2.2.1 q5i,ma hc.2.2.2 q5i,fun a ha=>q a _ F2 _ ((g1.trans g2).trans (Grow.own g2.fh ha)) (g2.fh.free ha) ((g1.trans g2).hh.free ha) qw (q2b _)⟩
  ·cases h3
 ·cases h3
def yk:List D->Option (List Str)
 | []=>some []
 | .str x :: ds=>(yk ds).map (x :: ·)
 | _=>none
omit [Lam] [Pin] in
theorem q2c{K:Frag}{H:Hp}: ∀ {ds:List D} {ys:List Str} {xs:List V},yk ds=some ys->RepL K H ds xs->xs=ys.map V.str
 | [],ys,xs,h,r=>by cases h;exact r.nil_inv
 | .str x :: ds,ys,xs,h,r=>by
  obtain⟨ys',h1,rfl⟩:=gq.mp h;obtain⟨v,t,rfl,a1,a2⟩:=r.cons_inv;rw [rep_str.mp a1,q2c h1 a2];rfl
 | .non :: ds,ys,xs,h,r=>by cases h
 | .bl _ :: ds,ys,xs,h,r=>by cases h
 | .int _ :: ds,ys,xs,h,r=>by cases h
 | .tup _ :: ds,ys,xs,h,r=>by cases h
 | .lst _ :: ds,ys,xs,h,r=>by cases h
 | .dct _ _ :: ds,ys,xs,h,r=>by cases h
 | .dtt _ _ :: ds,ys,xs,h,r=>by cases h
 | .obj _ :: ds,ys,xs,h,r=>by cases h
 | .exc _ _ :: ds,ys,xs,h,r=>by cases h
def vg:D->D->Option D
 | .str x,.lst ds=>(yk ds).bind fun ys=>if JoinOk x ys=true then some (.str (Txt.join x ys)) else none
 | _,_=>none
theorem qgk:MtR X "str.join" (fun x xs H Q=>∃i a ys,x=.str i/\xs=[.ref a]/\SqL X.K H a (ys.map V.str)/\JoinOk i ys=true/\Q (.str (Txt.join i ys)) H):=by
 intro pins s σ H x xs v us Q I rx rv h;obtain⟨i,a,ys,rfl,rfl,h1,h2,q⟩:=h;obtain⟨t,rfl⟩:=rx;obtain⟨u0,rfl,ru⟩:=rv.one;obtain rfl:u0=Value.ref a:=ru;obtain⟨its,w1,w2,_⟩:=I.list h1;obtain⟨l,rfl,hl⟩:=q29 w1;exact SC.join w2.isList hl h2 fun t' k=>⟨.str _,H,I.tok _,⟨_,rfl⟩,q⟩
theorem wy{arg:Expr}(ho:PE X o (tD X.K f))(ha:PE X arg (tD X.K g))(hbase:attributeBase o "join" X.env (eval o X.env)=eval o X.env:=by rfl)
  (hfew:((backTo cpos (starEach [arg] X.env)).all (fun x=> !x.1)&&(backToKw cpos (keywordEach [] X.env)).all (fun x=>x.1.isSome)&&decide ([arg].length+([]:List Keyword).length+(if([]:List Keyword).isEmpty then 0 else 1)<30))=true:=by rfl)
  (hline:(apos.endLine==cpos.line)=true:=by rfl) (hs:starEach [arg] X.env=(false,eval arg X.env) :: starEach [] X.env:=by first|exact wx rfl|rfl) :
  PE X (.Call (.Attribute o "join" apos) [arg] [] cpos) (tD X.K (eOp vg f g)):=ze (q4a uq PySem.F.slot_str_join PySem.F.type_str_join qgk ho (jt ha vt hs) hbase hfew hline hs rfl) fun σ H Q ⟨F0,H0,F, ρ,d0,r,hf,q⟩=>by
 obtain⟨d,h1,hf⟩:=g0.mp hf;obtain⟨e,h2,h3⟩:=g0.mp hf;unfold vg at h3
 split at h3
 ·rename_i i ds
  obtain⟨ys,h4,h3⟩:=g0.mp h3
  split at h3
  ·rename_i hc
   cases h3;refine⟨F0,H0,F, ρ,_,r,h1,fun v F1 H1 g1 r1=>?_⟩;cases rep_str.mp r1;refine⟨rfl,F0,H0,F1, ρ,_,r.grow g1,h2,fun u F2 H2 g2 r2=>?_⟩;obtain⟨a,xs,rfl,z1,z2⟩:=rep_lst.mp r2;rw [q2c h4 z2] at z1;exact⟨i,a,ys,rfl,rfl,g2.fh.seq z1,hc,q _ F2 H2 (g1.trans g2) (rep_str.mpr rfl)⟩
  ·cases h3
 ·cases h3
def q33(op:Str->Str->Option D): D->D->Option D
 | .str i,.str j=>op i j
 | _,_=>none
theorem qfl{arg:Expr}{name:Str}{id:String}{op:Str->Str->Option D}(slot:Slot "str" name id)(hty:typeOf (.builtin id)=pure (.type "method_descriptor"))
  (hm:MtR X id (fun x xs H Q=>∃i j d v,x=.str i/\xs=[.str j]/\op i j=some d/\(∀F:Hp,Rep X.K F d v)/\Q v H)) (hfl:∀i j d,op i j=some d->∃v,∀F:Hp,Rep X.K F d v) (ho:PE X o (tD X.K f)) (ha:PE X arg (tD X.K g)) (hbase:attributeBase o name X.env (eval o X.env)=eval o X.env:=by rfl)
  (hfew:((backTo cpos (starEach [arg] X.env)).all (fun x=> !x.1)&&(backToKw cpos (keywordEach [] X.env)).all (fun x=>x.1.isSome)&&decide ([arg].length+([]:List Keyword).length+(if([]:List Keyword).isEmpty then 0 else 1)<30))=true:=by rfl)
  (hline:(apos.endLine==cpos.line)=true:=by rfl) (hs:starEach [arg] X.env=(false,eval arg X.env) :: starEach [] X.env:=by first|exact wx rfl|rfl) :
  PE X (.Call (.Attribute o name apos) [arg] [] cpos) (tD X.K (eOp (q33 op) f g)):=ze (q4a uq slot hty hm ho (jt ha vt hs) hbase hfew hline hs rfl) fun σ H Q ⟨F0,H0,F, ρ,d0,r,hf,q⟩=>by
 obtain⟨d,h1,hf⟩:=g0.mp hf;obtain⟨e,h2,h3⟩:=g0.mp hf;unfold q33 at h3
 split at h3
 ·rename_i i j
  refine⟨F0,H0,F, ρ,_,r,h1,fun v F1 H1 g1 r1=>?_⟩;cases rep_str.mp r1;refine⟨rfl,F0,H0,F1, ρ,_,r.grow g1,h2,fun u F2 H2 g2 r2=>?_⟩;cases rep_str.mp r2;obtain⟨w,hw⟩:=hfl i j _ h3;exact⟨i,j,_,w,rfl,rfl,h3,hw,q w F2 H2 (g1.trans g2) (hw F2)⟩
 ·cases h3
def q2d(i j:Str): Option D:=some (.bl (Txt.endswith i j))
theorem mt_ends:MtR X "str.endswith" (fun x xs H Q=>∃i j d v,x=.str i/\xs=[.str j]/\q2d i j=some d/\(∀F:Hp,Rep X.K F d v)/\Q v H):=by
 intro pins s σ H x xs v us Q I rx rv h;obtain⟨i,j,d,w,rfl,rfl,h1,h2,q⟩:=h;cases h1;obtain rfl:w=.bl (Txt.endswith i j):=rep_bl.mp (h2 H);obtain⟨t,rfl⟩:=rx;obtain⟨u0,rfl,ru⟩:=rv.one;obtain⟨u,rfl⟩:=ru;exact SC.endswith ⟨.bl _,H,I,rfl,q⟩
def q1m(i j:Str): Option D:=match occurrences i j 0 i.length 1 with
 | k :: _=>some (.int (k:Nat))
 | []=>none
theorem qj3:MtR X "str.index" (fun x xs H Q=>∃i j d v,x=.str i/\xs=[.str j]/\q1m i j=some d/\(∀F:Hp,Rep X.K F d v)/\Q v H):=by
 intro pins s σ H x xs v us Q I rx rv h;obtain⟨i,j,d,w,rfl,rfl,h1,h2,q⟩:=h;unfold q1m at h1
 split at h1
 ·rename_i k rest ho
  cases h1;obtain rfl:w=.int (k:Nat):=rep_int.mp (h2 H);obtain⟨t,rfl⟩:=rx;obtain⟨u0,rfl,ru⟩:=rv.one;obtain⟨u,rfl⟩:=ru;exact SC.index ho ⟨.int _,H,I.tok _,⟨_,rfl⟩,q⟩
 ·cases h1
def xk:D->D->Option D
 | .str i,.str j=>if i.length+j.length<=lim then some (.str (i++j)) else none
 | _,_=>none
theorem yy:OpR X (binaryOp .Add) (rD X.K xk):=wu qam fun x y H Q ⟨F,d1,d2,d,fh,r1,r2,ho,q⟩=>by
 unfold xk at ho
 split at ho
 ·split at ho
  ·rename_i i j hc
   cases ho;exact⟨i,j,rep_str.mp r1,rep_str.mp r2,ma hc q5i,q _ F H (.refl fh) (rep_str.mpr rfl)⟩
  ·cases ho
 ·cases ho
def q2e:D->D->Option D
 | .str i,.str j=>some (.bl (!(occurrences j i 0 j.length 1).isEmpty))
 | _,_=>none
theorem qcq:OpR X (compareOp .In) (rD X.K q2e):=wu qbz fun x y H Q ⟨F,d1,d2,d,fh,r1,r2,ho,q⟩=>by
 unfold q2e at ho
 split at ho
 ·rename_i i j
  cases ho;exact⟨i,j,rep_str.mp r1,rep_str.mp r2,q _ F H (.refl fh) (rep_bl.mpr rfl)⟩
 ·cases ho
def yl:D->D->Option D
 | .str z,.int i=>if z.length<=lim then(atI z.cps.toList i).map fun c=>.str ⟨#[c]⟩ else none
 | _,_=>none
theorem q2f{a b:Expr}(ha:PE X a (tD X.K f))(hb:PE X b (tD X.K g))(hs:q30 b:=by intro _ _;rfl): PE X (.Subscript a b pos) (tD X.K (eOp yl f g)):=ze (qap qc4 ha hb hs) fun σ H Q h=>by
 obtain⟨F0,H0,F, ρ,d0,r,hf,q⟩:=h;obtain⟨d,h1,hf⟩:=g0.mp hf;obtain⟨e,h2,h3⟩:=g0.mp hf;unfold yl at h3
 split at h3
 ·rename_i z i
  split at h3
  ·rename_i hc
   obtain⟨c,h4,h5⟩:=gq.mp h3;cases h5;refine⟨F0,H0,F, ρ,_,r,h1,fun v F1 H1 g1 r1=>⟨F0,H0,F1, ρ,_,r.grow g1,h2,fun u F2 H2 g2 r2=>?_⟩⟩;exact⟨z,i,c,rep_str.mp r1,rep_int.mp r2,ma hc q5i,h4,q _ F2 H2 (g1.trans g2) (rep_str.mpr rfl)⟩
  ·cases h3
 ·cases h3
def rSlS:V->Option Int->Option Int->Hp->VK->Prop:=fun x lo hi H Q=>∃z,x=.str z/\z.length<=sizeLine/\Q (.str (Txt.slice z lo hi)) H
theorem qj4:SlR X rSlS:=by
 intro pins s σ H x v vl vu lo hi sl Q I rx hs pl pu h;obtain⟨z,rfl,hz,q⟩:=h;obtain⟨t,rfl⟩:=rx;refine⟨"str",_,F.slot_str_getitem.lookup,g04 _ _ _,?_⟩;have fin:∀(t':Tok) (k:Nat),EP X pins σ Q (.str (Txt.slice z lo hi) t') {s with toks:=k}:=fun t' k=>⟨.str _,H,I.tok _,⟨_,rfl⟩,q⟩
 obtain⟨o,o1,o2,o3⟩:=hs;cases pl <;> cases pu
 ·exact pw (l:=none) (u:=none) (st:=none) ⟨o,o1,o2,o3⟩ rfl (g08 ⟨ma (g15 z _ _) hz,fin⟩)
 ·rename_i j tj
  exact pw (l:=none) (u:=some (j,tj)) (st:=none) ⟨o,o1,o2,o3⟩ rfl (g08 ⟨ma (g15 z _ _) hz,fin⟩)
 ·rename_i j tj
  exact pw (l:=some (j,tj)) (u:=none) (st:=none) ⟨o,o1,o2,o3⟩ rfl (g08 ⟨ma (g15 z _ _) hz,fin⟩)
 ·rename_i i ti j tj
  exact pw (l:=some (i,ti)) (u:=some (j,tj)) (st:=none) ⟨o,o1,o2,o3⟩ rfl (g08 ⟨ma (g15 z _ _) hz,fin⟩)
def w9(f:FE)(lo hi:FO): FE:=fun ρ =>(f ρ).bind fun d=>(lo ρ).bind fun l=>(hi ρ).bind fun h=>match d with
 | .str z=>if z.length<=lim then some (.str (Txt.slice z l h)) else none
 | _=>none
theorem y8{a:Expr}{lo hi:Option Expr}{fl fh:FO}{p2:Pos}(ha:PE X a (tD X.K f))(hl:PO X lo (tDO X.K fl))(hh:PO X hi (tDO X.K fh)): PE X (.Subscript a (.Slice lo hi none p2) pos) (tD X.K (w9 f fl fh)):=
 ze (q7d qj4 ha hl hh) fun σ H Q ⟨F0,H0,F, ρ,d,r,hf,q⟩=>by
  obtain⟨x,h1,hf⟩:=g0.mp hf;obtain⟨l,h2,hf⟩:=g0.mp hf;obtain⟨u,h3,h4⟩:=g0.mp hf
  split at h4
  ·rename_i z
   split at h4
   ·rename_i hc
    cases h4;exact⟨F0,H0,F, ρ,_,r,h1,fun v F1 H1 g1 r1=>⟨F0,H0,F1, ρ,l,r.grow g1,h2,fun F2 H2 g2=>⟨F0,H0,F2, ρ,u,(r.grow g1).grow g2,h3,fun F3 H3 g3=>⟨_,rep_str.mp r1,ma hc q5i,q _ F3 H3 (g1.trans (g2.trans g3)) (rep_str.mpr rfl)⟩⟩⟩⟩
   ·cases h4
  ·cases h4
end
end DL
namespace DL
open PySem PySem.Spec PyProof.Rows L2
variable[Lam][Pin]
def q34:List D->Option D
 | [.str x]=>if x.length<=640 then(intText? x).map .int else none
 | _=>none
section
variable{X:Cx}{e:Expr}{jp p2 fp:Pos}{j2:Nat}{f:FE}
theorem q9x:zm X (.type "int") (rC X.K q34):=by
 intro pins s σ H xs us Q I rv ⟨F,ds,d,fh,rl,ho,q⟩;unfold q34 at ho
 split at ho
 ·rename_i x
  split at ho
  ·rename_i hl
   obtain⟨n,hn,rfl⟩:=gq.mp ho;obtain⟨v,rfl,rx⟩:=rep1 rl;cases rep_str.mp rx;obtain⟨u,rfl,ru⟩:=rv.one;obtain⟨t,rfl⟩:=ru;exact PySem.W.KIN.call_text hn hl ⟨.int n,H,I.tok _,⟨_,rfl⟩,q _ F H (.refl fh) (rep_int.mpr rfl)⟩
  ·cases ho
 ·cases ho
def qax(f:FE)(s2:Str): FE:=fun ρ =>(f ρ).bind fun d=>match d with
 | .int i=>if i.natAbs.log2<1920 then some (.str (Str.ofString (toString i)++s2)) else none
 | _=>none
theorem qj5{s2:Str}(he:PE X e (tD X.K f))(h2:s2.length<=1000): PE X (.JoinedStr [.FormattedValue e (-1) none fp,.Constant (.str s2) j2 p2] jp) (tD X.K (qax f s2)):=by
 intro pins s σ H Q I ⟨F0,H0,F, ρ,d0,r,hf,q⟩;obtain⟨d,h1,h3⟩:=g0.mp hf
 split at h3
 ·rename_i i
  split at h3
  ·rename_i hd
   cases h3;refine JoinedStr_many (joinParts_cons (FormattedValue_plain (thn (he pins _ σ H (fun v H1=>v=.int i/\∃F1,Grow F H F1 H1) (I.tok _) ⟨F0,H0,F, ρ,_,r,h1,fun v F1 H1 g1 r1=>⟨rep_int.mp r1,F1,g1⟩⟩) fun u s2 ⟨x,H1,I1,rx,ex,F1,g1⟩=>?_)));subst ex;obtain⟨t,rfl⟩:=(show ∃t,u=Value.int i t from rx)
   have li:=int_text_length_le (k:=1920) (by decide) hd;have e0:(Str.empty++Str.ofString (toString i))=Str.ofString (toString i):=by
    generalize Str.ofString (toString i)=z;obtain⟨c⟩:=z;show Str.mk (#[]++c)=_;rw [Array.empty_append]
   have l3:(Str.ofString (toString i)).length<=1922:=by rw [PySem.ofString_length];omega
   refine formatField_int_small hd ⟨by rw [e0,nv];omega,joinParts_cons (Calls.Constant_str ⟨?_,joinParts_nil ⟨.str _,H1,I1.tok _,⟨_,rfl⟩,?_⟩ ?_⟩)⟩
   ·rw [e0,strLen_append,nv];omega
   ·rw [e0];exact q _ F1 H1 g1 (rep_str.mpr rfl)
   ·rw [e0,strLen_append,nv];omega
  ·cases h3
 ·cases h3
end
end DL
namespace DL
open PySem PySem.Spec PyProof.Rows L2
def Its(x:Str): It:=⟨fun i _=>i<x.cps.size,fun i H v H'=>H'=H/\∃c,x.cps[i]? = some c/\v=.str ⟨#[c]⟩,fun i _=>x.cps.size<=i⟩
def q1a(x:Str): List D:=x.cps.toList.map fun c=>.str ⟨#[c]⟩
variable[Lam][Pin]
theorem qgl{K:Frag}{F:Hp}(x:Str): ItD K F (q1a x) (Its x) where
 go:=fun i F' H s1 s2 hi=>by show i<x.cps.size;simpa [q1a] using hi
 yld:=fun i d F' H v H' s1 s2 hi ⟨e,c,h1,h2⟩=>by
  subst e h2;simp only [q1a,gv] at hi;have h3:x.cps.toList[i]? = some c:=by simpa using h1
  rw [h3] at hi;cases hi;exact⟨F',.refl s2,rep_str.mpr rfl⟩
 stop:=fun i F' H s1 s2 hi=>by show x.cps.size<=i;simpa [q1a] using hi
omit [Lam] [Pin] in
theorem qen{P:Program}{w:World}{K:PySem.W.Frag}{tg:Expr}(it:Addr)(ty:String)(x:Str)(t:Tok)(hn:["enumerate","zip","dict_itemiterator","dict_reverseitemiterator","odict_iterator","itertools.zip_longest","itertools.pairwise"].contains ty=false)
  (hself:∀(A:Around) (i:Nat) (s:Shared) (Q:Value->Shared->Prop) (E:Value->Shared->Prop),s.heap.IsStrIter it ty x t i->Q (.ref it) s->wpAny (model P w) A (pyIter (.ref it)) Q E s)
  (W:∀A':Around,A'.handled=none->Walks P w A' it [it] [it] x.cps.size (SignAt x) (fun i h=>h.IsStrIter it ty x t i)):Turn P w K tg (Its x) [it] it (fun i h=>i<=x.cps.size/\h.IsStrIter it ty x t i) where
 mem:=by simp
 obj:=fun i h st b hb=>by
  have e:b=it:=by simpa using hb
  subst e;obtain⟨_,o,e,c,d⟩:=st;exact⟨o,e,fun v z=>by rw [d] at z;cases z⟩
 keep:=fun i h h' st k=>⟨st.1,let⟨o,e,r⟩:=st.2; ⟨o,k it (by simp) o e,r⟩⟩
 item:=by
  intro X hP hw hK hc i pins s σ H E I hf st hg;subst hP hw hK;obtain⟨f0,f1,f2,f3,f4,f5⟩:=hf it (by simp);refine(W _ (I.ok.hd hc)).item i s _ _ hg st.2 fun v h' tk hv st' kk=>?_;obtain⟨c,u,h1,rfl⟩:=hv;have I1:Inv X pins σ H {s with heap:=h',toks:=tk}:=I.turned (fun b o hb e=>kk b o (by simpa using hb) e) f0 f1 f3 f4 f5;obtain⟨o,e,c',d⟩:=id st';exact⟨_,rfl,q6v (s:={s with heap:=h',toks:=tk}) e c' d hn ⟨.str ⟨#[c]⟩,H,I1,⟨u,rfl⟩,⟨rfl,c,h1,rfl⟩,⟨hg,st'⟩,fun b hb=>(hf b hb).1⟩⟩
 done:=by
  intro X hP hw hK hc i pins s σ H E I hf st hg;subst hP hw hK;obtain⟨f0,f1,f2,f3,f4,f5⟩:=hf it (by simp);have ei:i=x.cps.size:=Nat.le_antisymm st.1 hg;have st2:=st.2;rw [ei] at st2;exact(W _ (I.ok.hd hc)).done s _ _ st2 fun h' tk kk=>⟨rfl,I.turned (fun b o hb e=>kk b o (by simpa using hb) e) f0 f1 f3 f4 f5⟩
 self:=fun A i s Q E st h=>hself A i s Q E st.2 h
section
variable{X:Cx}{tg e:Expr}{f:FE}
def q81(f:FE): FA:=fun ρ =>(f ρ).bind fun d=>match d with
 | .str x=>some (q1a x)
 | _=>none
theorem qcr(h:PE X e (tD X.K f)): PI X tg e (tDI X.K (q81 f)):=by
 intro pins s σ H R I ⟨F0,H0,F, ρ,ds,r,hf,q⟩;obtain⟨d,h1,h2⟩:=g0.mp hf
 split at h2
 ·rename_i x
  cases h2;refine thn (h pins s σ H (fun v H1=>v=.str x/\∃F1,Grow F H F1 H1) I ⟨F0,H0,F, ρ,_,r,h1,fun v F1 H1 g1 r1=>⟨rep_str.mp r1,F1,g1⟩⟩) fun u s1 ⟨v,H1,I1,rv,ev,F1,g1⟩=>?_;subst ev;obtain⟨t,rfl⟩:=(show ∃t,u=Value.str x t from rv)
  have fin:∀(ty:String) (o:Obj),o.cls=.type ty->o.data=.fields #[.str x t,.int 0 0]->["enumerate","zip","dict_itemiterator","dict_reverseitemiterator","odict_iterator","itertools.zip_longest","itertools.pairwise"].contains ty=false ->
    (∀(it:Addr) (A:Around) (i:Nat) (s:Shared) (Q:Value->Shared->Prop) (E:Value->Shared->Prop),s.heap.IsStrIter it ty x t i->Q (.ref it) s->wpAny (model X.prog X.w) A (pyIter (.ref it)) Q E s) ->
    (∀(it:Addr) (A':Around),A'.handled=none->Walks X.prog X.w A' it [it] [it] x.cps.size (SignAt x) (fun i h=>h.IsStrIter it ty x t i))->PIE X pins σ tg R (.ref s1.heap.objs.size) {s1 with heap:=s1.heap.push o}:=fun ty o oc od hn hs hW=>
   ⟨s1.heap.objs.size,[s1.heap.objs.size],_,Its x,H1,rfl,I1.kept (t':=s1.toks) fun b ob e=>gb _ e,qen _ ty x t hn (hs _) (hW _),⟨p0 _,o,m4 _ (Obj.isFreed_of_fields od),oc,od⟩,fun b hb=>by
    have e:b=s1.heap.objs.size:=by simpa using hb
    subst e;exact I1.fpOk (gm _) (I1.hok.fresh (gm _)),q _ F1 H1 g1 (qgl x)⟩
  cases ha:x.cps.all (· < 128)
  ·exact wpAny_pyIter_wide ha (fin "str_iterator" _ rfl rfl (by decide) (fun it A i s Q E a b=>wpAny_pyIter_striter_wide a b) fun it A' hA=>Walks.strWide hA _ x t)
  ·exact wpAny_pyIter_ascii ha (fin "str_ascii_iterator" _ rfl rfl (by decide) (fun it A i s Q E a b=>wpAny_pyIter_striter_ascii a b) fun it A' hA=>Walks.strAscii hA _ x t)
 ·cases h2
end
def v8(ks:List Str)(us:List Value): List (Key×Value):=(ks.map Sum.inr).zip us
theorem q35:∀ {ks:List Str} {xs:List V} {vs:List (Key×Value)},KV ((ks.map Sum.inr).zip xs) vs->ks.length=xs.length->∃us,Vals xs us/\vs=v8 ks us
 | [],[],vs,h,_=>by cases h;exact⟨[],.nil,rfl⟩
 | [],_ :: _,_,_,e=>by cases e
 | _ :: _,[],_,_,e=>by cases e
 | k :: ks,x :: xs,vs,h,e=>by
  cases h with
  | cons h t=>
   rename_i p qs;obtain⟨us,r,rfl⟩:=q35 (ks:=ks) t (by simpa using e);obtain⟨a,b⟩:=p;obtain⟨h1,h2⟩:=h;refine⟨b :: us,.cons h2 r,?_⟩;cases h1
   rfl
theorem q9y:∀ {ks:List Str} {xs:List V} {us:List Value},Vals xs us->KV ((ks.map Sum.inr).zip xs) (v8 ks us)
 | [],xs,us,h=>by unfold v8;exact .nil
 | _ :: _,_,_,.nil=>by unfold v8;exact .nil
 | k :: ks,_,_,.cons h t=>by unfold v8;exact .cons ⟨rfl,h⟩ (q9y t)
theorem q70:∀ {ks:List Str} {us:List Value} {k:Str},ks.length=us.length->valueAt (v8 ks us) (Sum.inr k)=if k∈ks then us[ks.idxOf k]? else none
 | [],us,k,_=>by simp [v8,valueAt]
 | _ :: _,[],_,e=>by cases e
 | a :: ks,u :: us,k,e=>by
  have ih:=q70 (ks:=ks) (us:=us) (k:=k) (by simpa using e);unfold valueAt v8 at ih ⊢;simp only [gy,List.zip_cons_cons,List.find?_cons,Sum.inr.injEq]
  by_cases q:a=k
  ·subst q;simp
  ·rw [m8 q,List.idxOf_cons,show(a==k)=false from g0c.mpr q]
   simp only [me,show ¬k=a from fun z=>q z.symm,false_or,cond_false,ue];exact ih
theorem q95:∀ {ks:List Str} {us:List Value} {k:Str} {u:Value},ks.length=us.length->k∉ks->stored (v8 ks us) (Sum.inr k) u=v8 (ks++[k]) (us++[u]):=by
 intro ks us k u e hk;unfold stored;rw [mf]
 ·unfold v8
  rw [nu,List.zip_append (by simpa using e)];rfl
 ·rw [g16]
  rintro⟨x,hx,hd⟩
  have:=t9 hd;obtain⟨x1,x2⟩:=x;cases this;have:=g01 hx;exact hk (by simpa using this.1)
section
variable{X:Cx}
abbrev q5j(ks:List Str)(xs:List V): List (Key×V):=(ks.map Sum.inr).zip xs
def rSetDefS:V->List V->Hp->VK->Prop:=fun x vs H Q=>∃a ks xs k v,x=.ref a/\vs=[.str k,v]/\H a=some (.dK (q5j ks xs))/\ks.length=xs.length/\xs.length<sizeLine /\
 (∀b,k∈ks->xs[ks.idxOf k]? = some b->Q b H)/\(k∉ks->Q v (upd H a (.dK (q5j (ks++[k]) (xs++[v])))))
theorem qay:MtR X "dict.setdefault" rSetDefS:=by
 intro pins s σ H x vs v us Q I rx rv h;obtain⟨a,ks,xs,k,p,rfl,rfl,hH,hl,hz,q1,q2⟩:=h;cases rx;obtain⟨u1,u2,rfl,r1,r2⟩:=rv.two;obtain⟨t,rfl⟩:=r1;obtain⟨z,hd,vs,rel,dd⟩:=(show ObjOk X.prog X.w H s.heap a _ from I.hok a _ hH)
 obtain⟨us,ru,rfl⟩:=q35 rel hl;have hlu:ks.length=us.length:=by rw [<- ru.length];exact hl
 have hzz:(v8 ks us).length<=sizeLine:=by unfold v8;rw [p6,g7];omega
 refine call_meetsIn g0i dd.typeIs PySem.F.entry_dict_setdefault (PySem.F.args_dict_setdefault_3 _ _ _) (kt_meets_setdefault (mixKind X.prog X.w) a (q3f _ _ k t) hd u2)
  ⟨_,dd,hzz,fun v hv=>?_,fun hn h' dd' hs=>?_⟩
 ·rw [q70 hlu] at hv
  split at hv
  ·rename_i hk
   have hi:ks.idxOf k<xs.length:=by rw [<- hl];exact p9 hk
   obtain⟨uu,eu,ruu⟩:=ru.get (m7 hi);rw [hv] at eu;cases eu;exact⟨_,H,I.tok _,ruu,q1 _ hk (m7 hi)⟩
  ·cases hv
 ·have hk:k∉ks:=fun hk=>by
   rw [q70 hlu,gu hk,m7 (by rw [<- hlu];exact p9 hk)] at hn;cases hn
  rw [q95 hlu hk] at dd';have he:∃q,h'.get? a=some q:=let⟨q,_,_,hq,_⟩:=dd'; ⟨q,hq⟩
  refine⟨p,_,I.write (x:=a) (e:=a) (o:=.dK (q5j (ks++[k]) (xs++[p]))) (t':=s.toks+1) (by rw [hH];exact True.intro) (.inl rfl) (fun b q hb z=>(hs.2 b hb).trans z) he ⟨?_,hd,_,q9y (ru.append (.cons r2 .nil)),dd'⟩,r2,q2 hk⟩;rw [p6];simp only [g7,gh,gs];omega
end
variable[Lam][Pin]
section
variable{X:Cx}{pos p:Pos}{x:Str}{f g:FE}
def q5k:List Key->Option (List Str)
 | []=>some []
 | .inr i :: r=>(q5k r).map (i :: ·)
 | _ :: _=>none
omit [Lam] [Pin] in
theorem q5l:∀ {ks:List Key} {ns:List Str},q5k ks=some ns->ks=ns.map Sum.inr
 | [],ns,h=>by cases h;rfl
 | .inr i :: ks,ns,h=>by
  obtain⟨ms,h1,rfl⟩:=gq.mp h;rw [q5l h1];rfl
 | .inl _ :: _,_,h=>by cases h
def ym:D->D->Option D
 | .dct ks vs,.str k=>(q5k ks).bind fun ns=>if k∈ns then vs[ns.idxOf k]? else none
 | _,_=>none
theorem qgm:IxR X (rD X.K ym):=by
 intro value slice pins s σ H x y v u Q I rx ry ⟨F,d1,d2,d,fh,r1,r2,ho,q⟩ hs;unfold ym at ho
 split at ho
 ·rename_i ks vs k
  obtain⟨ns,hns,hg⟩:=g0.mp ho;clear ho;have ho:=hg;clear hg;obtain rfl:=q5l hns
  split at ho
  ·rename_i hk
   cases rep_str.mp r2;obtain⟨a,xs,rfl,e1,e2,e3⟩:=rep_dct.mp r1;cases rx;obtain⟨t,rfl⟩:=ry;obtain⟨z,hd,vvs,rel,dd⟩:=(show ObjOk X.prog X.w H s.heap a _ from I.hok a _ (fh _ _ e1))
   obtain⟨us,ru,rfl⟩:=q35 rel (by simpa using e2);obtain⟨w,ew,rw'⟩:=e3.get ho;obtain⟨uu,eu,ruu⟩:=ru.get ew;refine tail_any (ops:=[.ref a,.str k t]) (T:="dict") dd.typeIs PySem.F.slot_dict_getitem.lookup ?_ hs;refine wpAny_getItem_of (q3f _ _ k t) dd.mapOf (v:=uu) ?_ ⟨w,H,I.tok _,ruu,q w F H (.refl fh) rw'⟩;rw [q70 (by rw [<- ru.length, <- e2,g7]),gu hk];exact eu
  ·cases ho
 ·cases ho
theorem qgn{a b:Expr}(ha:PE X a (tD X.K f))(hb:PE X b (tD X.K g))(hs:q30 b:=by intro _ _;rfl): PE X (.Subscript a b pos) (tD X.K (eOp ym f g)):=ze (qap qgm ha hb hs) fun σ H Q h=>two h
theorem q9z{s:Str}(hg:Gl X x)(hm:∃t,X.mg x=some (.str s t))(hdb:(x==("__debug__" : Str))=false:=by decide): PE X (.Name x p) (tD X.K (eC (.str s))):=by
 obtain⟨t,hm⟩:=hm;exact q07 (q9i hg hm (v:=.str s) ⟨t,rfl⟩ hdb) fun _=>rep_str.mpr rfl
end
end DL
namespace DL
open PySem PySem.Spec PyProof.Rows L2
variable[Lam][Pin]
section
variable{X:Cx}
def q36:List D->Option D
 | [.dct ks vs]=>some (.int ks.length)
 | _=>none
theorem qa0:zm X (.builtin "len") (rC X.K q36):=by
 intro pins s σ H xs us Q I rv ⟨F,ds,d,fh,rl,ho,q⟩;unfold q36 at ho
 split at ho
 ·rename_i ks vs
  cases ho;obtain⟨x,rfl,rx⟩:=rep1 rl;obtain⟨a,ys,rfl,e1,e2,e3⟩:=rep_dct.mp rx;obtain⟨u,rfl,ru⟩:=rv.one;obtain rfl:u=Value.ref a:=ru;obtain⟨z,hd,vvs,rel,dd⟩:=(show ObjOk X.prog X.w H s.heap a _ from I.hok a _ (fh _ _ e1))
  have hl:vvs.length=ks.length:=by rw [<- rel.length,p6, <- e2,tf]
  have hz:ks.length<=sizeLine:=by rw [p6, <- e2,tf] at z;exact z
  refine call_len_dict hd dd (by rw [hl];rw [nv] at hz;omega) ⟨.int vvs.length,H,I.tok _,⟨_,rfl⟩,?_⟩;rw [hl];exact q _ F H (.refl fh) (rep_int.mpr rfl)
 ·cases ho
omit [Lam] [Pin] in
theorem fl_ends{K:Frag}(i j:Str)(d:D)(h:q2d i j=some d): ∃v,∀F:Hp,Rep K F d v:=by
 cases h;exact⟨_,fun F=>rep_bl.mpr rfl⟩
omit [Lam] [Pin] in
theorem qj6{K:Frag}(i j:Str)(d:D)(h:q1m i j=some d): ∃v,∀F:Hp,Rep K F d v:=by
 unfold q1m at h
 split at h
 ·cases h
  exact⟨_,fun F=>rep_int.mpr rfl⟩
 ·cases h
end
end DL
namespace SetS
open PySem PySem.Spec PyProof.Rows
def metS(val:Nat->Str)(i:Nat): List Str:=((List.range i).map val).foldl step_dedup []
theorem qcs(val:Nat->Str): metS val 0=[]:=rfl
theorem q2g(val:Nat->Str)(i:Nat): metS val (i+1)=step_dedup (metS val i) (val i):=by
 unfold metS;rw [List.range_succ,nu,g0u];rfl
theorem metS_le(val:Nat->Str): ∀i,(metS val i).length<=i
 | 0=>by rw [qcs];exact gm _
 | i+1=>by
  rw [q2g];unfold step_dedup;have ih:=metS_le val i
  split
  ·omega
  ·rw [gh,gs];omega
theorem qct(σ : List Str)(v k:Str): (step_dedup σ v).any (· == k)=(σ.any (· == k) || decide (k=v)):=by
 unfold step_dedup
 by_cases h : σ.any (· == v)=true
 ·rw [gu h]
  by_cases e:k=v
  ·subst e;rw [h];simp
  ·simp [e]
 ·rw [mf h,List.any_append]
  by_cases e:k=v
  ·subst e;simp
  ·have hb:(v==k)=false:=by simpa [g0x] using(fun h':v=k=>e h'.symm)
   simp [hb,e]
theorem q82(σ : List Str)(v:Str): (step_dedup σ v).length=if σ.any (· == v) then σ.length else σ.length+1:=by
 unfold step_dedup;split <;> simp
section
variable{prog:Program}{w:World}{A:Around}{R:Result->Shared->Prop}{I:Addr}{fp wr:List Addr}{G:Array GenState->Array GenState->Prop}{n:Nat}{P:Nat->Value->Prop}{St:Nat->Shared->Prop}
theorem qkf(W:WalksS prog w A.in1 I fp wr G n P St)(S:Addr)(hSf:S∉fp)
  (val:Nat->Str) (hval:∀i v,P i v->∃t,v=.str (val i) t) (hb:n+1<scanBound) :
  ∀(k i:Nat) (s:Shared),n-i=k->i<=n->St i s ->
   s.heap.SetOf (strKind prog w) S (fun k'=>(metS val i).any (· == k')) (metS val i).length ->
   (∀s',Moved (S :: wr) G s s'->s'.heap.SetOf (strKind prog w) S (fun k'=>(metS val n).any (· == k')) (metS val n).length->R (.ok (.ret .none)) s') ->
   codeAny (model prog w) A (.builtin "set.update.loop" ⟨[.ref S,.ref I],[]⟩) R s:=by
 have hSw:S∉wr:=fun h=>hSf (W.sub _ h);have hsub:∀b∈wr,b∈S :: wr:=fun b hb=>gr _ hb;intro k
 induction k with
 | zero=>
  intro i s hk hi hst hS hR;have hin:i=n:=by omega
  subst hin;refine ni F.entry_set_update_loop ?_;rw [n5 uf _];show wpAny _ A.in1 (pyNext (.ref I) >>= _) _ _ s;refine g9 (W.done s _ _ hst fun s' hm=>?_);show wpAny _ A.in1 (ret Value.none) _ _ s';exact gd (hR s' (hm.mono hsub) (by
   obtain⟨o,es,ep,t,ho,rest⟩:=hS;exact⟨o,es,ep,t,hm.heap S _ hSw ho,rest⟩))
 | succ k ih=>
  intro i s hk hi hst hS hR;have hlt:i<n:=by omega
  refine ni F.entry_set_update_loop ?_;rw [n5 uf _];show wpAny _ A.in1 (pyNext (.ref I) >>= _) _ _ s;refine g9 (W.item i s _ _ hlt hst fun v s' hP hst' hm=>?_);obtain⟨t,rfl⟩:=hval i v hP;have hS':s'.heap.SetOf (strKind prog w) S (fun k'=>(metS val i).any (· == k')) (metS val i).length:=by
   obtain⟨o,es,ep,tb,ho,rest⟩:=hS;exact⟨o,es,ep,tb,hm.heap S _ hSw ho,rest⟩
  show wpAny _ A.in1 (holding [Value.str (val i) t] (setAdd S (.str (val i) t)) >>= _) _ _ s';refine g9 (pz ?_);unfold setAdd;refine pz ?_;refine g9 ((strKind prog w).pyHash (k:=val i) (strKind_is _ _ _ _) ?_);have hroom:(metS val i).length+1<scanBound:=by have:=metS_le val i;omega
  refine wpAny_setAddHashed_of (knd:=strKind prog w) (s:={s' with toks:=s'.toks+1}) (strKind_is _ _ _ _) rfl hS' hroom fun h' hsb hS2=>?_;have hSi:h'.SetOf (strKind prog w) S (fun k'=>(metS val (i+1)).any (· == k')) (metS val (i+1)).length:=
   SetOf_congr hS2 (fun k'=>by rw [q2g,qct]) (by rw [q2g,q82])
  refine gd ⟨ur uf _,ih (i+1) _ (by omega) hlt (W.frame _ s' _ _ hst' (g0j _) fun b hb o e=>?_) hSi fun s'' hm'' hS''=>?_⟩
  ·rw [hsb.2 b (fun h:b=S=>hSf (by rw [<- h];exact hb))];exact e
  ·refine hR s'' (Moved.trans W.gtrans ((hm.mono hsub).then_heap (g0j _) fun b o hb e=>?_) hm'') hS''
   rw [hsb.2 b (fun h:b=S=>hb (by rw [h];exact gi))];exact e
end
section
variable{prog:Program}{w:World}{A:Around}{E:Value->Shared->Prop}{s:Shared}
set_option maxHeartbeats 3200000 in
theorem call_set{l:Addr}{items:Array Value}{ns:List Str}{Q:Value->Shared->Prop}
  (hh:A.handled=none) (hl:s.heap.IsList l items) (hi:∀(i:Nat) (v:Value),items[i]? = some v->∃t,v=.str (ns.getD i default) t) (hb:items.size+1<scanBound)
  (h:∀(h':Heap) (tk:Nat),h'.SetOf (strKind prog w) s.heap.objs.size (fun k'=>(metS (fun i=>ns.getD i default) items.size).any (· == k')) (metS (fun i=>ns.getD i default) items.size).length->s.toks<=tk ->
   (∀b o,b<s.heap.objs.size->s.heap.get? b=some o->h'.get? b=some o)->Q (.ref s.heap.objs.size) {s with heap:=h',toks:=tk}) :
  wpAny (model prog w) A (call (.type "set") [.ref l]) Q E s:=by
 obtain⟨c,tl,hmro⟩:=ph.mro;have hmade:=ph.made;have hsub:=ph.sub;refine wpAny_call (g1e ?_);show wpAny _ _ (callAny (.type "set") _) _ _ _;refine gd ⟨Code.quiet_builtin _ (by decide +kernel),ni F.entry_type_call ?_⟩;rw [Around.under_plain (weight_type_call_type "set" [.ref l] []) rfl];have h1:=ph.notType;have h2:=ph.canCreate;have hct:=F.typeCall_set_1 (.ref l)
 repeat (any_goals (first|assumption|wp_step))
 refine u7 (code_set_new_1 (.ref l) (E:=E) (Q₁:=fun obj s₁=>∃led:Bool,obj=.ref s.heap.objs.size/\s₁ = {s with heap:=s.heap.push {cls:=.type "set",dict:=none,data:=.set #[] 0 (.fresh 0 0 led)} }) fun led=>⟨led,rfl,rfl⟩) fun r s₁ hr=>?_;cases r with
 | error e=>exact hr
 | ok fl=>
  cases fl with
  | ret obj=>
   obtain⟨led,rfl,rfl⟩:=hr;have hS:(s.heap.push {cls:=.type "set",dict:=none,data:=.set #[] 0 (.fresh 0 0 led)}).get? s.heap.objs.size=some {cls:=.type "set",dict:=none,data:=.set #[] 0 (.fresh 0 0 led)}:=m4 _ rfl;have hT:Shared.TypeIs {s with heap:=s.heap.push {cls:=.type "set",dict:=none,data:=.set #[] 0 (.fresh 0 0 led)} } (.ref s.heap.objs.size) "set" :=⟨_,hS,rfl⟩
   have hli:=ph.init.lookup;have hbi:=ph.init.bind (.ref s.heap.objs.size)
   repeat (any_goals (first|assumption|wp_step))
   refine u7 (g05 (R:=wants (fun r s₂=>r=.none/\∃h' tk,s₂ = {s with heap:=h',toks:=tk} /\
     h'.SetOf (strKind prog w) s.heap.objs.size (fun k'=>(metS (fun i=>ns.getD i default) items.size).any (· == k')) (metS (fun i=>ns.getD i default) items.size).length/\s.toks<=tk /\
     (∀b o,b<s.heap.objs.size->s.heap.get? b=some o->h'.get? b=some o)) E) ph.init.plain F.entry_set_init (check_set_init_1 hT ?_)) fun r₂ s₂ hr₂=>?_
   ·obtain⟨ol,hol,hcl,nl,hdl⟩:=hl
    obtain⟨ocls,odict,odata,oslots⟩:=ol;simp only at hcl hdl;subst hcl;subst hdl;have hol':(s.heap.push {cls:=.type "set",dict:=none,data:=.set #[] 0 (.fresh 0 0 led)}).get? l=some {cls:=.type "list",dict:=odict,data:=.seq items nl,slots:=oslots}:=gb _ hol;have hsls:=F.sub_list_set;have hslf:=F.sub_list_frozenset;have hne:(Value.type "list" == Value.type "dict")=false:=by decide
    have hl1:(s.heap.push {cls:=.type "set",dict:=none,data:=.set #[] 0 (.fresh 0 0 led)}).IsList l items:=⟨_,hol',rfl,nl,rfl⟩
    unfold Builtin.«set.__init__» noKeywords Builtin.Frozenset.updateFrom;generalize hPI:pyIter=PI
    wp_walk
    subst hPI;refine g0q hl1 ?_;refine g9 (wpAny_runValue ?_);have hlS:l<s.heap.objs.size:=gp hol;have hh3:A.in1.in1.in1.handled=none:=by simp [hh]
    have hneI:l≠(s.heap.push {cls:=.type "set",dict:=none,data:=.set #[] 0 (.fresh 0 0 led)}).objs.size:=by
     rw [g0h];exact mh (Nat.lt_succ_of_lt hlS)
    have hSf:s.heap.objs.size∉[(s.heap.push {cls:=.type "set",dict:=none,data:=.set #[] 0 (.fresh 0 0 led)}).objs.size,l]:=by
     rw [g0h];simp only [me,nj,uw,or_false,not_or];exact⟨mh (g12 _),uy hlS⟩
    refine qkf ((Walks.list hh3 _ l hneI items).toS) s.heap.objs.size
     hSf (fun i=>ns.getD i default) hi hb (items.size-0) 0 _ (by omega) (p0 _)
     ⟨⟨_,m4 _ rfl,rfl,rfl⟩,(hl1.push _)⟩ ?hS0 ?hR
    case hS0=>
     have hget:((s.heap.push {cls:=.type "set",dict:=none,data:=.set #[] 0 (.fresh 0 0 led)}).push {cls:=.type "list_iterator",data:=.fields #[.ref l,.int 0 0]}).get? s.heap.objs.size
       = some {cls:=.type "set",dict:=none,data:=.set #[] 0 (.fresh 0 0 led)}:=gb _ hS
     exact PyProof.Rows.SetOf_congr ((PyProof.Rows.setObjOf_fresh (knd:=strKind prog w) led).setOf hget (by unfold scanBound;omega)) (fun _=>rfl) rfl
    case hR=>
     intro s' hm hS';obtain⟨h',g',d',tk',os'⟩:=s';have eg:g'=s.gens:=hm.gens;have ed:d'=s.drawn:=hm.drawn;have eo:os'=s.os:=hm.os;have etk:s.toks<=tk':=hm.toks;subst eg;subst ed;subst eo;show wpAny _ _ _ _ _ _;refine gd ?_;show wpAny _ _ (ret Value.none) _ _ _;refine gd ⟨rfl,h',tk',rfl,hS',etk,fun b o hb e=>?_⟩;have hb1:b≠s.heap.objs.size:=mh hb;have hb2:b≠(s.heap.push {cls:=.type "set",dict:=none,data:=.set #[] 0 (.fresh 0 0 led)}).objs.size:=by
      rw [g0h];exact mh (Nat.lt_succ_of_lt hb)
     exact hm.heap b o (by simp only [me,nj,uw,or_false,not_or];exact⟨hb1,hb2⟩) (gb _ (gb _ e))
   ·cases r₂ with
    | error e=>exact hr₂
    | ok fl₂=>
     cases fl₂ with
     | ret r=>
      obtain⟨rfl,h',tk,rfl,hS',htk,hk'⟩:=hr₂
      repeat (any_goals (first|assumption|wp_step))
      exact h _ _ hS' htk hk'
     | _=>exact hr₂.elim
  | _=>exact hr.elim
theorem call_len{a:Addr}{S:Str->Bool}{n:Nat}{Q:Value->Shared->Prop}(hS:s.heap.SetOf (strKind prog w) a S n)(hn:n<scanBound)(h:Q (.int n (s.toks+1)) {s with toks:=s.toks+1+1}):
  wpAny (model prog w) A (call (.builtin "len") [.ref a]) Q E s:=by
 obtain⟨o,es,ep,t,ho,hex,hd,_,_,_,hf,rfl⟩:=hS;exact call_len_set ho hex hd hf (Int.lt_of_lt_of_le (by unfold scanBound at hn;omega:(es.size:Int)<4096) (by decide)) h
end
end SetS
namespace Td
open PySem PyProof.Rows
section
variable{prog:Program}{w:World}{A:Around}{E:Value->Shared->Prop}{s:Shared}
theorem q96{Q:List Value->Shared->Prop}{T:String}{r d:Addr}{n:Nat}{P:Nat->Value->Prop}{OK:Heap->Prop}(K:PySem.W.KdlSrc prog w T r d n P OK)(hh:A.handled=none)(hok:OK s.heap)(hn:n<=sizeLine)
  (h:∀(h':Heap) (tk:Nat) (vs:List Value),vs.length=n->(∀i v,vs[i]? = some v->P i v)->(∀b o,b<s.heap.objs.size->s.heap.get? b=some o->h'.get? b=some o)->s.heap.objs.size<=h'.objs.size->Q vs {s with heap:=h',toks:=tk}) :
  wpAny (model prog w) A (collect (.ref r)) Q E s:=by
 unfold collect;refine g9 (wpAny_runValue (u7 (?_:codeAny _ _ _ (fun res s'=>res=.ok (.ret (.ref s.heap.objs.size))/\∃h' tk acc' c',s' = {s with heap:=h',toks:=tk}/\(∀b o,b<s.heap.objs.size->s.heap.get? b=some o->h'.get? b=some o)/\h'.get? s.heap.objs.size=some {cls:=.type "list",dict:=none,data:=.seq acc' c',slots:= #[]}/\ItemsOf P acc' n) _) fun res s' hr=>?_))
 ·refine ni F.entry_proto_collect ?_
  rw [n5 F.plain_proto_collect _];show wpAny _ A.in1 (newList [] >>= fun l=>again (.builtin "list.__iadd__" ⟨[l,.ref r],[]⟩)) _ _ s;refine g9 (nc ?_);refine gd ⟨ur ui _,ni F.entry_list_iadd ?_⟩;rw [n5 ui _]
  let lo:Obj:={cls:=.type "list",data:=.seq ([]:List Value).toArray}
  have hS:(s.heap.push lo).get? s.heap.objs.size=some lo:=m4 _ rfl;have hlt:=K.there _ hok;show wpAny _ A.in1 (Builtin.List.listExtendWith (.ref s.heap.objs.size) (.ref r) (.ref s.heap.objs.size)) _ _ _;refine PySem.W.kdl_extend (R:=fun res s'=>res=.ok (.ret (.ref s.heap.objs.size))/\∃h' tk acc' c',s' = {s with heap:=h',toks:=tk}/\(∀b o,b<s.heap.objs.size->s.heap.get? b=some o->h'.get? b=some o)/\h'.get? s.heap.objs.size=some {cls:=.type "list",dict:=none,data:=.seq acc' c',slots:= #[]}/\ItemsOf P acc' n)
   (s:={s with heap:=s.heap.push lo}) K hh (K.keep _ _ hok fun b _ o e=>gb _ e) _ (uy hlt.1) (uy hlt.2) _ _ hS (fun h' tk acc' c' hk hS' hacc=>⟨rfl,h',tk,acc',c',rfl,fun b o hb e=>hk b o (mh hb) (gb _ e),hS',hacc⟩) hn
 ·obtain⟨rfl,h',tk,acc',c',rfl,hk,hS',hacc⟩:=hr
  show wpAny _ A (load s.heap.objs.size >>= _) _ _ _;refine g9 (wpAny_load (s:={s with heap:=h',toks:=tk}) hS' ?_);refine gd ?_;exact h h' tk acc'.toList (by rw [pk];exact hacc.1) (fun i v e=>hacc.2 i v (by rw [<- Array.getElem?_toList];exact e)) hk (u6 (gp hS'))
theorem q4s{Q₁:Value->Shared->Prop}{r d:Addr}{n:Nat}{P:Nat->Value->Prop}{OK:Heap->Prop}(K:PySem.W.KdlSrc prog w "dict" r d n P OK)(hh:A.handled=none)(hok:OK s.heap)(hT:s.TypeIs (.ref r) "dict")(hn:n<=sizeLine)
  (h:∀(h':Heap) (tk:Nat) (vs:List Value),vs.length=n->(∀i v,vs[i]? = some v->P i v)->(∀b o,b<s.heap.objs.size->s.heap.get? b=some o->h'.get? b=some o)->s.heap.objs.size<=h'.objs.size->Q₁ (.ref h'.objs.size) {s with heap:=h'.push {cls:=.type "tuple",data:=.seq vs.toArray},toks:=tk}) :
  codeAny (model prog w) A (.call (.builtin "tuple.__new__") ⟨[.type "tuple",.ref r],[]⟩) (wants Q₁ E) s:=by
 refine g1e ?_;show wpAny _ A.in1 (do checkBuiltinCall "tuple.__new__" ⟨[.type "tuple",.ref r],[]⟩;again (.builtin "tuple.__new__" ⟨[.type "tuple",.ref r],[]⟩)) _ _ s;refine g9 (wpAny_of_eq (F.newCall_tuple_1 _) (gd ⟨ur uj _,ni F.entry_tuple_new ?_⟩));rw [n5 uj _];have hsub:=sub_tuple_self;have hinit:=init_tuple_lookup;have hmh:=madeHere_tuple;have hh2:A.in1.handled=none:=by simp [hh]
 wp_walk using g02 hT,q96 (A:=A.in1) (hn:=hn) K hh2 hok
 intro h' tk vs hl hP hk hz;show wpAny _ _ (Builtin.Tuple.tupleExact vs.toArray >>= fun v=>ret v) _ _ _;unfold Builtin.Tuple.tupleExact;refine g9 (nc ?_ (by show vs.toArray.size<=sizeLine;rw [gc,hl];exact hn));refine gd ?_;exact h h' tk vs hl hP hk hz
theorem call_tuple_dict{Q:Value->Shared->Prop}{r d:Addr}{n:Nat}{P:Nat->Value->Prop}{OK:Heap->Prop}(K:PySem.W.KdlSrc prog w "dict" r d n P OK)(hh:A.handled=none)(hok:OK s.heap)(hT:s.TypeIs (.ref r) "dict")(hn:n<=sizeLine)
  (hQ:∀(h':Heap) (tk:Nat) (vs:List Value),vs.length=n->(∀i v,vs[i]? = some v->P i v)->(∀b o,b<s.heap.objs.size->s.heap.get? b=some o->h'.get? b=some o)->s.heap.objs.size<=h'.objs.size->Q (.ref h'.objs.size) {s with heap:=h'.push {cls:=.type "tuple",data:=.seq vs.toArray},toks:=tk}) :
  wpAny (model prog w) A (call (.type "tuple") [.ref r]) Q E s:=by
 refine callType_codes (Q₁:=fun obj s₁=>s₁.TypeIs obj "tuple" /\ Q obj s₁) tm (F.typeCall_tuple_1 _) F.entry_object_init
  (q4s K hh hok hT hn fun h' tk vs hl hP hk hz=>⟨⟨_,m4 _ rfl,rfl⟩,hQ h' tk vs hl hP hk hz⟩) fun obj s₁ h₁=>?_
 exact⟨h₁.1,F.args_object_init_2 obj _,object_init_meets tm.init.lookup tm.made (by decide) prog w A.in1 _ s₁ ⟨h₁.1,rfl,h₁.2⟩⟩
end
end Td
namespace DL
open PySem PySem.Spec PyProof.Rows L2
def j6(ns:List Str): List Str:=ns.foldl step_dedup []
theorem map_getD{α : Type}(d : α): ∀l:List α,(List.range l.length).map (fun i=>l.getD i d)=l:=fun l=>by
 apply g0v;intro i
 by_cases h:i<l.length
 ·simp [h]
 ·simp [h]
theorem qa1(ns:List Str): SetS.metS (fun i=>ns.getD i default) ns.length=j6 ns:=by
 unfold SetS.metS j6;rw [map_getD]
variable[Lam][Pin]
section
variable{X:Cx}{pos:Pos}
abbrev qaz(X:Cx)(a:Addr)(n:Nat): HO:=.ext fun h=>∃S,h.SetOf (strKind X.prog X.w) a S n
def qff(X:Cx): List V->Hp->VK->Prop:=fun xs H Q=>∃a ns,xs=[.ref a]/\SqL X.K H a (ns.map V.str)/\ns.length+1<scanBound/\∀c,H c=none->Q (.ref c) (upd H c (qaz X c (j6 ns).length))
theorem qgo(hc:X.calm=true): zm X (.type "set") (qff X):=fun pins s σ H xs us Q I rv ⟨a,ns,e,h1,h2,q⟩=>by
 subst e;obtain⟨u,rfl,ru⟩:=rv.one;obtain rfl:u=Value.ref a:=ru;obtain⟨its,w1,w2,_⟩:=I.list h1;obtain⟨l,rfl,hl⟩:=q29 w1;have hsz:(strValues l).toArray.size=ns.length:=by rw [gc, <- hl,g7];simp [strValues]
 refine SetS.call_set (ns:=ns) (I.ok.hd hc) w2.isList (fun i v hv=>?_) (by rw [hsz];exact h2) fun h' tk hS ht old=>?_
 ·rw [List.getElem?_toArray] at hv
  unfold strValues at hv;rw [gv] at hv;obtain⟨p,hp,rfl⟩:=gq.mp hv;refine⟨p.2,?_⟩;have:ns[i]? = some p.1:=by rw [<- hl,gv,hp];rfl
  rw [n8,this];rfl
 ·rw [hsz,qa1] at hS
  have hnn:H s.heap.objs.size=none:=I.hok.fresh (gm _);obtain⟨o,es,ep,t,ho,_⟩:=id hS;exact⟨.ref _,_,I.laid (t':=tk) (a:=s.heap.objs.size) (o:=qaz X s.heap.objs.size (j6 ns).length) (fun b ob qb=>old b ob (gp qb) qb) (gm _) ⟨⟨_,hS⟩,⟨o,ho⟩,fun h1 h2 ⟨S,o,es,ep,t,ho,k⟩ e=>⟨S,o,es,ep,t,e _ ho,k⟩⟩,rfl,q _ hnn⟩
theorem qcu:zm X (.builtin "len") (fun xs H Q=>∃a n,xs=[.ref a]/\H a=some (qaz X a n)/\n<scanBound/\Q (.int n) H):=fun pins s σ H xs us Q I rv ⟨a,n,e,h1,h2,q⟩=>by
 subst e;obtain⟨u,rfl,ru⟩:=rv.one;obtain rfl:u=Value.ref a:=ru;obtain⟨⟨S,hS⟩,_,_⟩:=I.hok a _ h1;exact SetS.call_len hS h2 ⟨.int n,H,I.tok _,⟨_,rfl⟩,q⟩
omit [Lam] [Pin] in
theorem qa2(ns:List Str): (j6 ns).length<=ns.length:=by
 rw [<- qa1];exact SetS.metS_le _ _
def q37(f:FE): FE:=fun ρ =>(f ρ).bind fun d=>match d with
 | .lst ds=>(yk ds).bind fun ns=>if ns.length+1<scanBound then some (.int (j6 ns).length) else none
 | _=>none
theorem qcv{a:Expr}{f:FE}{p p1 q1:Pos}(hc:X.calm=true)(hgl:Gl X "len")(hml:X.mg "len" = none)(hgt:Gl X "set")(hmt:X.mg "set" = none)(ha:PE X a (tD X.K f))
  (s1:starEach [a] X.env=(false,eval a X.env) :: starEach [] X.env:=by rfl)
  (s3:starEach [.Call (.Name "set" p1) [a] [] q1] X.env=(false,eval (.Call (.Name "set" p1) [a] [] q1) X.env) :: starEach [] X.env:=by rfl)
  (h1:∀pos,(backTo pos (starEach [] X.env)).any (·.1)=false:=by intro _;rfl) :
  PE X (.Call (.Name "len" p) [.Call (.Name "set" p1) [a] [] q1] [] pos) (tD X.K (q37 f)):=by
 refine ze (q04 qcu hgl hml DL.zr (jt (q63 (qgo hc) hgt hmt (T:="set") (by rfl) (jt ha vt s1) (he:=s1) (hpl:=h1 _)) vt s3) (he:=s3) (hpl:=h1 _)) fun σ H Q ⟨F0,H0,F, ρ,d0,r,hf,q⟩=>?_;obtain⟨d,hx,hf⟩:=g0.mp hf
 split at hf
 ·rename_i ds
  obtain⟨ns,hn,hg⟩:=g0.mp hf
  split at hg
  ·rename_i hlt
   cases hg;refine⟨F0,H0,F, ρ,.lst ds,r,hx,fun v F1 H1 g1 r1=>?_⟩;obtain⟨b,xs,rfl,z1,z2⟩:=rep_lst.mp r1;rw [q2c hn z2] at z1;refine⟨b,ns,rfl,g1.fh.seq z1,hlt,fun c hc=>?_⟩;have g2:Grow F1 H1 F1 (upd H1 c (qaz X c (j6 ns).length)):=Grow.own g1.fh hc;exact⟨c,_,rfl,qw,Nat.lt_of_le_of_lt (qa2 ns) (by omega),q _ F1 _ (g1.trans g2) (rep_int.mpr rfl)⟩
  ·cases hg
 ·cases hf
def q4t:List D->Option D
 | [.dct ks _]=>(q5k ks).map fun ns=>.tup (ns.map .str)
 | _=>none
theorem qgp(hc:X.calm=true): zm X (.type "tuple") (rC X.K q4t):=by
 intro pins s σ H xs us Q I rv ⟨F,ds,d,fh,rl,ho,q⟩;unfold q4t at ho
 split at ho
 ·rename_i ks vs
  obtain⟨ns,hns,hg⟩:=gq.mp ho;subst hg;obtain rfl:=q5l hns;obtain⟨x,rfl,rx⟩:=rep1 rl;obtain⟨a,ys,rfl,e1,e2,e3⟩:=rep_dct.mp rx;obtain⟨u,rfl,ru⟩:=rv.one;obtain rfl:u=Value.ref a:=ru;obtain⟨z,hd,vvs,rel,dd⟩:=(show ObjOk X.prog X.w H s.heap a _ from I.hok a _ (fh _ _ e1))
  obtain⟨us,ru,rfl⟩:=q35 rel (by simpa using e2);have hul:ns.length=us.length:=by rw [<- ru.length, <- e2,g7]
  obtain⟨o,es,ep,g1,g2⟩:=id dd;have da:s.heap.DictAt (mixKind X.prog X.w) a (v8 ns us) ep:=⟨o,es,g1,g2⟩
  have hzl:(v8 ns us).length=ns.length:=by unfold v8;rw [p6,g7, <- hul,tf]
  have hz:ns.length<=sizeLine:=by rw [p6, <- e2,tf,g7] at z;exact z
  refine Td.call_tuple_dict (PySem.W.kdl_dict hd) (I.ok.hd hc) da dd.typeIs (by rw [hzl];exact hz) fun h' tk vs' hl hP old hsz=>?_;have hV:Vals (ns.map V.str) vs':=by
   have key:∀(l:List Str) (us:List Value) (vs:List Value),l.length=us.length->vs.length=l.length->(∀(i:Nat) v,vs[i]? = some v->∃k x,(v8 l us)[i]? = some (k,x)/\(mixKind X.prog X.w).is k v=true)->Vals (l.map V.str) vs:=by
    intro l
    induction l with
    | nil=>intro us vs _ e _;cases vs with|nil=>exact .nil|cons _ _=>cases e
    | cons y l ih=>
     intro us vs e1 e2 h;cases us with
     | nil=>cases e1
     | cons u us=>
      cases vs with
      | nil=>cases e2
      | cons v vs=>
       obtain⟨k,x,h1,h2⟩:=h 0 v rfl;cases h1;refine .cons ?_ (ih us vs (by simpa using e1) (by simpa using e2) fun i v hv=>h (i+1) v (by simpa using hv));cases v <;> first|(cases h2;done)|skip
       rename_i y' t;have:y'=y:=by simpa [mixKind,q47,Value.isInt,Value.isStrOf] using h2
       subst this;exact⟨t,rfl⟩
   exact key ns us vs' hul (by rw [hl,hzl]) hP
  have hn2:H h'.objs.size=none:=I.hok.fresh hsz;have gn:Grow F H (upd F h'.objs.size (.tup (ns.map V.str))) (upd H h'.objs.size (.tup (ns.map V.str))):=Grow.new fh hn2;refine⟨.ref h'.objs.size,_,I.laid (t':=tk) (a:=h'.objs.size) (o:=.tup (ns.map V.str)) (fun b ob qb=>gb _ (old b ob (gp qb) qb)) hsz ⟨by rw [g7];exact hz,vs',hV,TupX.new _ _⟩,rfl,q _ _ _ gn (rep_tup.mpr ⟨h'.objs.size,_,rfl,SqT.of qw,q2b _⟩)⟩
 ·cases ho
end
end DL
namespace DL
open PySem PySem.Spec PyProof.Rows L2
variable[Lam][Pin]
section
variable{K:Frag}{F0 H0 F H F' H':Hp}{σ : St}{ρ : Rho}
theorem q2h(r:RS K F0 H0 F H σ ρ)(i:Nat): RS K F0 H0 F H σ (ρ.set i none):=by
 have key:∀ {j:Nat} {b:B},(ρ.set i none)[j]? = some (some b) -> ρ[j]? = some (some b):=fun {j b} h=>by
  by_cases q:j=i
  ·subst q
   obtain⟨z,_⟩:=qm h;cases z
  ·rw [g8 (m5 q)] at h
   exact h
 exact {t0:=r.t0,g:=r.g,len:=by rw [mr];exact r.len,fz:=fun j d e=>r.fz j d (key e),ow:=fun j d e=>r.ow j d (key e),dj:=fun i j ds es a h e1 e2=>r.dj i j ds es a h (key e1) (key e2),od:=fun j k e=>let⟨a,bs,e1,e2,e3⟩:=r.od j k (key e); ⟨a,bs,e1,e2,fun j es b z=>e3 j es b (key z)⟩,o1:=fun i j k1 k2 e1 e2=>r.o1 i j k1 k2 (key e1) (key e2)}
theorem q83(r:RS K F0 H0 F H σ ρ){i:Nat}(h : ρ[i]? = some none)(v:Option V): RS K F0 H0 F H (σ.set i v) ρ :=by
 have key:∀ {j:Nat} {b:B}, ρ[j]? = some (some b)->(σ.set i v)[j]? = σ[j]? :=fun {j b} e=>by
  refine g8 (fun q=>?_);subst q;rw [h] at e;cases e
 exact {t0:=r.t0,g:=r.g,len:=by rw [mr];exact r.len,fz:=fun j d e=>by rw [key e];exact r.fz j d e,ow:=fun j d e=>by rw [key e];exact r.ow j d e,dj:=fun i j ds es a h e1 e2=>by rw [key e1,key e2];exact r.dj i j ds es a h e1 e2,od:=fun j k e=>let⟨a,bs,e1,e2,e3⟩:=r.od j k e; ⟨a,bs,by rw [key e];exact e1,e2,fun j es b z=>by rw [key z];exact e3 j es b z⟩,o1:=r.o1}
theorem qj7(r:RS K F0 H0 F H σ ρ){p:Addr}{kv kv':List (Key×V)}(h0:H p=some (.dK kv))(h1:F p=none)(h2:H0 p=none): RS K F0 H0 F (upd H p (.dK kv')) σ ρ where
 t0:=r.t0
 g :=⟨r.g.ff,⟨fun b u e=>by rw [ql (fun z=>by subst z;rw [h2] at e;cases e)];exact r.g.hh.lst b u e,fun b u e=>by rw [ql (fun z=>by subst z;rw [h2] at e;cases e)];exact r.g.hh.ext b u e,fun {b} e=>by
   by_cases z:b=p
   ·subst z;exact h2
   ·rw [ql z] at e;exact r.g.hh.free e,fun _=>r.tab.updG fun u e=>by rw [h0] at e;cases e;exact⟨nofun,nofun⟩,fun b u e=>by rw [ql (fun z=>by subst z;rw [h2] at e;cases e)];exact r.g.hh.dk b u e⟩,fun b u e=>by rw [ql (fun z=>by subst z;rw [h1] at e;cases e)];exact r.g.fh b u e,r.g.nw⟩
 len:=r.len
 fz:=r.fz
 ow:=fun i ds e=>by
  obtain⟨a,xs,e1,e2,e3⟩:=r.ow i ds e;exact⟨a,xs,e1,by rw [ql (fun z=>by subst z;rw [h0] at e2;cases e2)];exact e2,e3⟩
 dj:=r.dj
 od:=fun i k e=>by
  obtain⟨a,bs,e1,e2,e3⟩:=r.od i k e;obtain⟨C,dx,vs,z1,z2,z3⟩:=e2.ex;exact⟨a,bs,e1,e2.other (fun z=>by subst z;rw [h0] at z1;cases z1) (by rw [e2.nb];exact uw),e3⟩
 o1:=r.o1
theorem qgq(r:RS K F0 H0 F H σ ρ){p:Addr}{kv:List (Key×V)}(h0:H p=some (.dK kv))(h1:F p=none)(h2:H0 p=none): RS K F0 H0 (upd F p (.dK kv)) H σ ρ where
 t0:=r.t0
 g :=⟨r.g.ff.trans (xc h1),r.g.hh,fun b u e=>by
   by_cases q:b=p
   ·subst q;rw [qw] at e;cases e;exact h0
   ·rw [ql q] at e;exact r.g.fh b u e,fun b hb=>by
   by_cases q:b=p
   ·subst q;exact .inr h2
   ·rw [ql q] at hb;exact r.g.nw b hb⟩
 len:=r.len
 fz:=fun i d e=>let⟨v,e1,e2⟩:=r.fz i d e; ⟨v,e1,e2.mono (xc h1)⟩
 ow:=fun i ds e=>by
  obtain⟨a,xs,e1,e2,e3,e4,e5⟩:=r.ow i ds e;exact⟨a,xs,e1,e2,by rw [ql (fun z=>by subst z;rw [h0] at e2;cases e2)];exact e3,e4,e5.mono (xc h1)⟩
 dj:=r.dj
 od:=fun i k e=>by
  obtain⟨a,bs,e1,e2,e3⟩:=r.od i k e;obtain⟨C,dx,vs,z1,z2,z3⟩:=e2.ex;exact⟨a,bs,e1,e2.otherF (xc h1) (fun z=>by subst z;rw [h0] at z1;cases z1) (by rw [e2.nb];exact uw),e3⟩
 o1:=r.o1
end
def lnD:D->Option (List Str)
 | .tup [_,.lst ds]=>yk ds
 | _=>none
def q84:List D->Option (List (List Str))
 | []=>some []
 | d :: ds=>(lnD d).bind fun l=>(q84 ds).map (l :: ·)
omit [Lam] [Pin] in
theorem q85:∀ {ds:List D} {ls:List (List Str)},q84 ds=some ls->ls.length=ds.length/\∀(k:Nat) (d:D),ds[k]? = some d->∃q,ls[k]? = some q/\lnD d=some q
 | [],ks,h=>by cases h;exact⟨rfl,fun k d e=>by cases e⟩
 | d :: ds,ks,h=>by
  obtain⟨q,h1,h2⟩:=g0.mp h;obtain⟨r,h3,rfl⟩:=gq.mp h2;obtain⟨e1,e2⟩:=q85 h3;refine⟨by rw [gz,gz,e1],fun k x e=>?_⟩;cases k with
  | zero=>cases e;exact⟨q,rfl,h1⟩
  | succ k=>exact e2 k x e
def qeo(n:Nat): List D:=(List.range n).map fun i:Nat=>D.int i
def q0v(n:Nat): List V:=(List.range n).map fun i:Nat=>V.int i
omit [Lam] [Pin] in
theorem qgr{K:Frag}{F:Hp}(n:Nat): RepL K F (qeo n) (q0v n):=by
 have:=(RepL.ints (K:=K) (H:=F) (ns:=(List.range n).map fun i:Nat=>(i:Int)) (xs:=q0v n)).mpr (by unfold q0v;rw [gj];rfl);rw [gj] at this;exact this
def y0(ks:List Str): D:=.dct (ks.map Sum.inr) (qeo ks.length)
abbrev hide(i1 i2 i3 j:Nat)(ρ : Rho): Rho:=(((ρ.set i1 none).set i2 none).set i3 none).set j none
def q86(i1 i2 i3 j:Nat)(it:FA): FS:=fun ρ =>if i1 < ρ.length/\i2 < ρ.length/\i3 < ρ.length/\j < ρ.length then(it (hide i1 i2 i3 j ρ)).bind fun ds=>(q84 ds).bind fun ls=>
 if ls.flatten.length<lim then some (.nx,(hide i1 i2 i3 j ρ).set i1 (some (.fz (y0 (j6 ls.flatten))))) else none else none
section
variable{X:Cx}{pos:Pos}
def tDNw:TE:=fun _ H Q=>∀p,H p=none->(p==sysModules)=false->Q (.ref p) (upd H p (.dK []))
theorem qj8:PE X (.Dict [] [] pos) tDNw:=fun pins s σ H Q I q=>by
 have hne:(s.heap.objs.size==sysModules)=false:=g0c.mpr (m5 (mh (qgi I)));refine wpAny_Dict_empty ⟨.ref s.heap.objs.size,_,I.laid (a:=s.heap.objs.size) (o:=.dK []) (t':=s.toks) (fun _ _ z=>gb _ z) (gm _)
  ⟨p0 _,hne,[],.nil,Heap.DictOf.new s.heap⟩,rfl,q _ (I.hok.fresh (gm _)) hne⟩
theorem qgs:zm X (.builtin "len") (fun xs H Q=>∃a kv,xs=[.ref a]/\H a=some (.dK kv)/\Q (.int kv.length) H):=fun pins s σ H xs us Q I rv ⟨a,kv,e,h1,q⟩=>by
 subst e;obtain⟨u,rfl,ru⟩:=rv.one;obtain rfl:u=Value.ref a:=ru;obtain⟨z,hd,vvs,rel,dd⟩:=(show ObjOk X.prog X.w H s.heap a _ from I.hok a _ h1)
 have hl:vvs.length=kv.length:=rel.length.symm;refine call_len_dict hd dd (by rw [hl];rw [nv] at z;omega) ⟨.int vvs.length,H,I.tok _,⟨_,rfl⟩,?_⟩;rw [hl];exact q
omit [Lam] [Pin] in
theorem q6c(l:List Str)(k:Str): j6 (l++[k])=step_dedup (j6 l) k:=by
 unfold j6;rw [g0u];rfl
omit [Lam] [Pin] in
theorem q3y{l:List Str}{k:Str}(h:k∈l): step_dedup l k=l:=by
 unfold step_dedup;rw [gu (g16.mpr ⟨k,h,by simp⟩:(l.any fun x=>x==k)=true)]
omit [Lam] [Pin] in
theorem q1n{l:List Str}{k:Str}(h:k∉l): step_dedup l k=l++[k]:=by
 unfold step_dedup;rw [mf];intro z;obtain⟨y,h1,h2⟩:=g16.mp z;exact h (by rw [<- eq_of_beq h2];exact h1)
omit [Lam] [Pin] in
theorem q87{α : Type}{l:List α}{k:Nat}{x : α}(h:l[k]? = some x): l.take (k+1)=l.take k++[x]:=by rw [List.take_succ,h];rfl
omit [Lam] [Pin] in
theorem q6d:∀ {ds:List D} {ys:List Str},yk ds=some ys->ds=ys.map D.str
 | [],ys,h=>by cases h;rfl
 | .str x :: ds,ys,h=>by
  obtain⟨ys',h1,rfl⟩:=gq.mp h;rw [q6d h1];rfl
 | .non :: ds,ys,h=>by cases h
 | .bl _ :: ds,ys,h=>by cases h
 | .int _ :: ds,ys,h=>by cases h
 | .tup _ :: ds,ys,h=>by cases h
 | .lst _ :: ds,ys,h=>by cases h
 | .dct _ _ :: ds,ys,h=>by cases h
 | .dtt _ _ :: ds,ys,h=>by cases h
 | .obj _ :: ds,ys,h=>by cases h
 | .exc _ _ :: ds,ys,h=>by cases h
structure GS(F H:Hp)(a:Addr)(ks:List Str): Prop where
 h:H a=some (.dK (q5j ks (q0v ks.length)))
 f:F a=none
omit [Lam] [Pin] in
theorem q1o(n:Nat): (q0v n).length=n:=by unfold q0v;simp
omit [Lam] [Pin] in
theorem qcw(n:Nat): q0v (n+1)=q0v n++[.int n]:=by unfold q0v;rw [List.range_succ,nu];rfl
theorem GS.grow{F H F' H':Hp}{a:Addr}{ks:List Str}(d:GS F H a ks)(g:Grow F H F' H'): GS F' H' a ks:=⟨g.hh.dk a (.inr _) d.h,q9n g d.f d.h⟩
theorem qj9{K:Frag}{F0 H0 F F':Hp}{D:Ends}{fl:Fl}{ρ':Rho}(h:Same F F')(q:q4d K F0 H0 F D fl ρ'): q4d K F0 H0 F' D fl ρ':=by
 cases fl with
 | nx=>exact fun σ' F2 H2 s r=>q σ' F2 H2 (h.trans s) r
 | bk=>exact fun σ' F2 H2 s r=>q σ' F2 H2 (h.trans s) r
 | ct=>exact fun σ' F2 H2 s r=>q σ' F2 H2 (h.trans s) r
 | rt d=>exact q
theorem qja{x z:Str}{p1 p2 p3 p4 p5 dp apos cpos lpos epos fpos fpos2 tpos:Pos}{tk:Nat}{t1 t2 tg2 it2 iter:Expr}{rest:List Stmt}{i1 i2 i3 j:Nat}{it:FA}{u:FS}
  (n12:i1≠i2) (n13:i1≠i3) (n1j:i1≠j) (n23:i2≠i3) (n2j:i2≠j) (n3j:i3≠j)
  (hp:PassesOwn (model X.prog X.w) X.A X.env X.xe) (hc:X.calm=true) (hgl:Gl X "len") (hml:X.mg "len" = none)
  (hd:PS X (.Assign [.Name x p1] (.Dict [] [] dp) pos) (qai tDNw (ka i1))) (hi:PI X (.Tuple [t1,t2] tk tpos) iter (tDI X.K it)) (hg1:PG X t1 (ka i2)) (hg2:PG X t2 (ka i3))
  (hi2:PI X tg2 it2 (tDI X.K (jr (eV i3)))) (hg:PG X tg2 (ka j)) (hv:PE X (.Name x p2) (q3q i1)) (hz:PE X (.Name z p3) (q3q j)) (hv2:PE X (.Name x p4) (q3q i1)) (hr:PSs X rest (tDS X.K u))
  (hs:∀x,foldedSetIterable iter X.env x=pure x:=by intro _;rfl) (hs2:∀x,foldedSetIterable it2 X.env x=pure x:=by intro _;rfl)
  (a1:(assignEach [t1,t2] X.env).map (·.2)=assign t1 X.env :: (assignEach [t2] X.env).map (·.2):=by rfl) (a2:(assignEach [t2] X.env).map (·.2)=assign t2 X.env :: (assignEach [] X.env).map (·.2):=by rfl)
  (hn:(assignEach [t1,t2] X.env).length=2:=by rfl) (hst:(assignEach [t1,t2] X.env).findIdx? (·.1)=none:=by rfl)
  (hb1:attributeBase (.Name x p2) "setdefault" X.env (eval (.Name x p2) X.env)=eval (.Name x p2) X.env:=by rfl)
  (hf1:((backTo cpos (starEach [.Name z p3,.Call (.Name "len" p5) [.Name x p4] [] lpos] X.env)).all (fun x=> !x.1)&&(backToKw cpos (keywordEach [] X.env)).all (fun x=>x.1.isSome)&&decide ([Expr.Name z p3,.Call (.Name "len" p5) [.Name x p4] [] lpos].length+([]:List Keyword).length+(if([]:List Keyword).isEmpty then 0 else 1)<30))=true:=by rfl)
  (hl1:(apos.endLine==cpos.line)=true:=by rfl) (hs1:starEach [.Name z p3,.Call (.Name "len" p5) [.Name x p4] [] lpos] X.env=(false,eval (.Name z p3) X.env) :: starEach [.Call (.Name "len" p5) [.Name x p4] [] lpos] X.env:=by rfl)
  (hs3:starEach [.Call (.Name "len" p5) [.Name x p4] [] lpos] X.env=(false,eval (.Call (.Name "len" p5) [.Name x p4] [] lpos) X.env) :: starEach [] X.env:=by rfl)
  (hs4:starEach [.Name x p4] X.env=(false,eval (.Name x p4) X.env) :: starEach [] X.env:=by rfl)
  (hp1:(backTo cpos (starEach [.Call (.Name "len" p5) [.Name x p4] [] lpos] X.env)).any (·.1)=false:=by rfl)
  (hsw:swapsWith (.Call (.Attribute (.Name x p2) "setdefault" apos) [.Name z p3,.Call (.Name "len" p5) [.Name x p4] [] lpos] [] cpos) none epos.line X.env=pure false:=by rfl) :
  PSs X (.Assign [.Name x p1] (.Dict [] [] dp) pos :: .For (.Tuple [t1,t2] tk tpos) iter [.For tg2 it2 [.Expr (.Call (.Attribute (.Name x p2) "setdefault" apos) [.Name z p3,.Call (.Name "len" p5) [.Name x p4] [] lpos] [] cpos) epos] [] fpos2] [] fpos :: rest)
   (tDS X.K (qt (q86 i1 i2 i3 j it) u)):=by
 refine q31 (q3r hd (q3r (q78 hp hc hi (qbu hc (q3s hg1 (q3s hg2 q9k a2) a1) hn hst) (q58 (q78 hp hc hi2 hg (q58 (q9j
  (q4a PySem.F.plainAttrs_dict g0i PySem.F.type_dict_setdefault qay hv (jt hz (jt (q04 qgs hgl hml DL.zr (jt hv2 vt hs4) (he:=hs4)) vt hs3) hs1) hb1 hf1 hl1 hs1 hp1) hsw)) hs2)) hs) hr)) fun D σ H ⟨F0,H0,F, ρ,fl, ρ',r,hf,q⟩=>?_
 obtain⟨⟨fl1, ρ1⟩,h3,h4⟩:=g0.mp hf;unfold q86 at h3
 split at h3
 case isFalse=>cases h3
 rename_i hok;obtain⟨l1,l2,l3,lj⟩:=hok;obtain⟨ds,hit,h3⟩:=g0.mp h3;obtain⟨ls,hls,h3⟩:=g0.mp h3
 split at h3
 case isFalse=>cases h3
 rename_i hlim;cases h3;obtain⟨kl,kget⟩:=q85 hls;intro a na nm;have hFa:F a=none:=r.fh.free na;have hHa:H0 a=none:=r.g.hh.free na;have hhi:∀ {i:Nat},i=i1\/i=i2\/i=i3\/i=j->(hide i1 i2 i3 j ρ)[i]? = some none:=fun {i} h=>by
  simp only [hide,uh,mr];rcases h with rfl|rfl|rfl|rfl <;> (repeat' split) <;> simp_all
 have hσl:∀ {σ':St} {F' H':Hp},RS X.K F0 H0 F' H' σ' (hide i1 i2 i3 j ρ) -> σ'.length = ρ.length:=fun r=>by rw [r.len];simp [hide]
 have r1:RS X.K F0 H0 F (upd H a (.dK [])) (σ.set i1 (some (.ref a))) (hide i1 i2 i3 j ρ):=
  q83 (q2h (q2h (q2h (q2h (r.grow (Grow.own r.fh na)) i1) i2) i3) j) (hhi (.inl rfl)) _
 have s1:(σ.set i1 (some (.ref a)))[i1]? = some (some (.ref a)):=by rw [n9 (by rw [r.len];exact l1)]
 have G1:GS F (upd H a (.dK [])) a []:=⟨qw,hFa⟩
 refine⟨F0,H0,F,_,ds,r1,hit,fun J F1 H1 g1 itd=>?_⟩;refine⟨fun k m σ H=>m=ds.length-k/\k<=ds.length/\∃F',Same F1 F'/\RS X.K F0 H0 F' H σ (hide i1 i2 i3 j ρ) /\ σ[i1]? = some (some (.ref a))/\GS F' H a (j6 (ls.take k).flatten),
  ⟨ds.length,by simp,p0 _,F1,.refl _,r1.grow g1,s1,G1.grow g1⟩,?_⟩
 rintro k m σ' H' ⟨rfl,hk,F',sm,rk,sk,Gk⟩
 by_cases hlt:k<ds.length
 ·refine .inr ⟨itd.go k F' H' sm rk.fh hlt,fun σ'' H''=>∃F'',Same F1 F''/\RS X.K F0 H0 F'' H'' σ'' (hide i1 i2 i3 j ρ) /\ σ''[i1]? = some (some (.ref a))/\GS F'' H'' a (j6 (ls.take (k+1)).flatten),fun σ'' H'' z=>⟨ds.length-(k+1),by omega,rfl,hlt,z⟩,fun x H2 y=>?_⟩
  have hd:ds[k]? = some ds[k]:=m7 hlt;obtain⟨F2,g2,rx⟩:=itd.yld k ds[k] F' H' x H2 sm rk.fh hd y;obtain⟨l,hl,hln⟩:=kget k _ hd;generalize ds[k]=dk at rx hln;unfold lnD at hln
  split at hln
  case h_2=>cases hln
  rename_i dm des;obtain⟨b,xs,rfl,h5,h6⟩:=rep_tup.mp rx;obtain⟨v1,xr,rfl,h7,h8⟩:=h6.cons_inv;obtain⟨v2,xr2,rfl,h9,h10⟩:=h8.cons_inv;cases h10.nil_inv;refine⟨b,_,rfl,qr g2.fh h5,rfl,v1,_,rfl,v2,_,rfl,rfl,?_⟩;have rb:=(q83 (rk.grow g2) (hhi (.inr (.inl rfl))) (some v1)).set i3 h9;have sb:((σ'.set i2 (some v1)).set i3 (some v2))[i1]? = some (some (.ref a)):=by rw [g8 (m5 n13),g8 (m5 n12)];exact sk
  have Gb:=Gk.grow g2;have hj:((hide i1 i2 i3 j ρ).set i3 (some (.fz (.lst des))))[j]? = some none:=by rw [g8 n3j];exact hhi (.inr (.inr (.inr rfl)))
  have hdes:=q6d hln;subst hdes;refine⟨F0,H0,F2,_,l.map DL.D.str,rb,?_,fun J2 F3 H3 g3 itd2=>?_⟩
  ·have:((hide i1 i2 i3 j ρ).set i3 (some (.fz (.lst (l.map DL.D.str)))))[i3]? = some (some (.fz (.lst (l.map DL.D.str)))):=by rw [n9 (by simp [hide];exact l3)]
   simp only [jr,eV,this,g6,q1h]
  refine⟨fun n m σ H=>m=l.length-n/\n<=l.length/\∃F',Same F3 F'/\RS X.K F0 H0 F' H σ ((hide i1 i2 i3 j ρ).set i3 (some (.fz (.lst (l.map DL.D.str))))) /\ σ[i1]? = some (some (.ref a))/\GS F' H a (j6 ((ls.take k).flatten++l.take n)),
   ⟨l.length,by simp,p0 _,F3,.refl _,rb.grow g3,sb,by rw [List.take_zero,t4];exact Gb.grow g3⟩,?_⟩
  rintro n m σ3 H4 ⟨rfl,hn,F4,sm4,r4,s4,G4⟩
  by_cases hlt2:n<l.length
  ·have hln2:l[n]? = some l[n]:=m7 hlt2
   have hdn:(l.map DL.D.str)[n]? = some (.str l[n]):=by rw [gv,hln2];rfl
   refine .inr ⟨itd2.go n F4 H4 sm4 r4.fh (by rw [g7];exact hlt2),fun σ'' H''=>∃F'',Same F3 F''/\RS X.K F0 H0 F'' H'' σ'' ((hide i1 i2 i3 j ρ).set i3 (some (.fz (.lst (l.map DL.D.str))))) /\ σ''[i1]? = some (some (.ref a))/\GS F'' H'' a (j6 ((ls.take k).flatten++l.take (n+1))),fun σ'' H'' z=>⟨l.length-(n+1),by omega,rfl,hlt2,z⟩,fun x H5 y=>?_⟩;obtain⟨F5,g5,rx5⟩:=itd2.yld n _ F4 H4 x H5 sm4 r4.fh hdn y;cases rep_str.mp rx5;have r5:=q83 (r4.grow g5) hj (some (.str l[n]));have s5:(σ3.set j (some (.str l[n])))[i1]? = some (some (.ref a)):=by rw [g8 (m5 n1j)];exact s4
   have sj:(σ3.set j (some (.str l[n])))[j]? = some (some (.str l[n])):=by
    rw [n9];have:=r5.len;rw [mr,mr] at this;simp only [hide,mr] at this;rw [this];exact lj
   have G5:=G4.grow g5;have ek:∀ks:List Str,(q5j ks (q0v ks.length)).length=ks.length:=fun ks=>by unfold q5j;rw [p6,g7,q1o,tf]
   have hsz:(j6 ((ls.take k).flatten++l.take n)).length<lim:=by
    refine Nat.lt_of_le_of_lt (ma (qa2 _) ?_) hlim;have e1:ls.flatten=(ls.take k).flatten++(l++(ls.drop (k+1)).flatten):=by
     obtain⟨z1,z2⟩:=mq.mp hl;have:=List.take_append_drop k ls;rw [u3 z1,z2] at this
     conv=>lhs;rw [<- this]
     rw [List.flatten_append,mv]
    rw [e1,gh,gh,gh,mn];omega
   have e2:(ls.take k).flatten++l.take (n+1)=((ls.take k).flatten++l.take n)++[l[n]]:=by rw [q87 hln2,mz]
   refine⟨.ref a,s5,.inr (.inr (.inl ⟨rfl,.inl ⟨_,G5.h⟩⟩)),.str l[n],sj,.ref a,s5,a,_,rfl,G5.h,a,_,_,l[n],_,rfl,rfl,G5.h,(q1o _).symm,by rw [q1o];exact q25 hsz,fun b hb _=>?_,fun hb=>?_⟩
   ·exact⟨F5,sm4.trans g5.ff,r5,s5,by rw [e2,q6c,q3y hb];exact G5⟩
   ·refine⟨F5,sm4.trans g5.ff,qj7 r5 G5.h G5.f hHa,s5,?_⟩
    rw [e2,q6c,q1n hb];refine⟨?_,G5.f⟩;rw [qw,gh,gs,qcw,ek]
  ·have e:n=l.length:=by omega
   subst e;refine .inl ⟨itd2.stop _ F4 H4 sm4 r4.fh (by rw [g7];exact gm _),F4,(sm.trans g2.ff).trans (g3.ff.trans sm4),?_,s4,?_⟩
   ·have:=q2h r4 i3
    rw [List.set_set] at this;have e3:(hide i1 i2 i3 j ρ).set i3 none=hide i1 i2 i3 j ρ :=by
     apply g0v;intro n
     by_cases q:n=i3
     ·subst q
      rw [n9 (by simp [hide];exact l3),hhi (.inr (.inr (.inl rfl)))]
     ·rw [g8 (m5 q)]
    rw [e3] at this;exact this
   ·rw [List.take_length] at G4
    rw [q87 hl,List.flatten_append,mv,List.flatten_nil,t4];exact G4
 ·have e:k=ds.length:=by omega
  subst e;refine .inl ⟨itd.stop _ F' H' sm rk.fh (gm _),?_⟩;rw [ny (by omega)] at Gk;have rf:=(qgq rk Gk.h Gk.f hHa).set i1 (d:=y0 (j6 ls.flatten)) (v:=.ref a) (rep_dct.mpr ⟨a,_,rfl,qw,by rw [g7,q1o],qgr _⟩);have e4 : σ'.set i1 (some (.ref a)) = σ':=by
   apply g0v;intro n
   by_cases q:n=i1
   ·subst q
    rw [sk,n9 (mq.mp sk).1]
   ·rw [g8 (m5 q)]
  rw [e4] at rf;exact⟨F0,H0,_,_,fl, ρ',rf,h4,qj9 ((g1.ff.trans sm).trans (xc Gk.f)) q⟩
end
section
variable{X:Cx}
def q5m:List D->Option D
 | [.int i]=>if i.natAbs.log2<1920 then some (.str (toString i)) else none
 | _=>none
theorem qcx:zm X (.type "str") (rC X.K q5m):=ko q7a fun xs H Q ⟨F,ds,d,fh,rl,ho,q⟩=>by
 unfold q5m at ho
 split at ho
 ·rename_i i
  split at ho
  ·rename_i hz
   cases ho;exact⟨i,RepL.ints (ns:=[i]).mp rl,hz,q _ F H (.refl fh) (rep_str.mpr rfl)⟩
  ·cases ho
 ·cases ho
end
end DL
namespace My
open PySem PySem.Spec PyProof.Rows L2 DL
local macro_rules | `(tactic| walk_at "A")=> `(tactic| ((refine q9q (hs:=?hs) ?a ?_);(case hs=>exact wx rfl)))
local macro_rules | `(tactic| walk_at "L")=> `(tactic| first|exact .inl rfl|exact .inr rfl|assumption)
def top(i:Nat): Stmt:=PySem.Challenge.pw_oftentogether_k72_shown_and_listed.main.body.getD i (.Pass ⟨0,0,0,0⟩)
section
variable[Lam]{P:Program}{w:World}{K:Frag}{mg:Str->Option Value}{base:Heap}
abbrev y9:Stmt:=top 24
noncomputable def q2i:List Str:=["_law_mark","_law_some","_law_ware"]
theorem wj:(q2i).Nodup:=by decide +kernel
theorem qb0:FnScope q2i ["_law_mark"] (qe y9):=⟨rfl,rfl,rfl,wj,rfl,by decide +kernel,by decide +kernel⟩
noncomputable def v9:FS:=(qt (sIf (vm oEq (eOp oMod (eV 0) (eC (.int 2))) (eC (.int 1))) (q0d 1 (eV 2)) x8) (zp 0 (eOp oDiv (eV 0) (eC (.int 2)))))
noncomputable def q0m:FS:=(qt (q0c 1 (q0a qg)) (qt (q3w (iR1 (qa (eC (.int 12)) qg)) (bN 2) v9) (w8 1 (zj (qh jw (qa (eV 1) qg))))))
noncomputable def kr:List D->Option D:=zb 3 q0m
theorem q4u{fa:Addr}{cdv:Value}{A:Around}{outer:List Env}{s:Shared}{H:Hp}{E:XK}(n_range:mg "range" = none)(n_tuple:mg "tuple" = none)(hr:Room 0 (A.deeper (envOfC "_law_set" (qe y9) s.heap.objs.size fa cdv))):
  PSs (j3 CX0 P w K mg base q2i "_law_set" (qe y9) fa cdv A outer s H E).nox (z0 y9) (tDS K q0m):=by
 unfold q0m v9;refine(qk ?_ ?_);exact(q7i (i:=1) wj rfl (Or.inl rfl) (q0b qf));refine(qk ?_ ?_);refine(q7l g09 rfl ?_ (qx wj rfl (Or.inl rfl) (.inl rfl)) (qk ?_ ?_));refine(y4 rfl n_range ?_);walk_at "A";exact qd;exact qf;refine(ju ?_ (qq ?_) ja);refine(xn (kb hr.units) ?_ qd);refine(qi zg ?_ qd);exact(q0 (pv 0));refine(q7j (pv 1) ?_);exact(q0 (pv 2));refine(qq ?_);refine(z9 (i:=0) ?_ ?_ ?_ ?_ ?_ ?_);exact wj;exact rfl;exact(Or.inl rfl);refine(qi q08 ?_ qd);exact(q0 (pv 0));exact rfl;walk_at "L";refine(q16 1 (qq ?_));refine(z5 ?_);refine(zy (vy) rfl n_tuple DL.boot_tuple ?_);walk_at "A";exact(q0 (pv 1));exact qf
theorem qb1{fa:Addr}{dV:Value}{fd:FuncData}(F:Fun2 K "_law_set" "_law_set" y9 dV fa fd)(n_range:mg "range" = none)(n_tuple:mg "tuple" = none): FnOk P w K mg base CX0 1 fa fd ["_law_mark"] (spD K 1 kr):=
 F.okn (k:=0) (n:=3) (ar:=1) (k1:=1) (u:=q0m) qb0 rfl rfl rfl fun cdv A outer s H E hr=>(by first|(with_reducible exact q4u n_range n_tuple hr)|exact q4u n_range n_tuple hr)
abbrev xt:Stmt:=top 25
noncomputable def q0w:List Str:=["_law_many"]
theorem q88:(q0w).Nodup:=by decide +kernel
theorem q89:FnScope q0w ["_law_many"] (qe xt):=⟨rfl,rfl,rfl,q88,rfl,by decide +kernel,by decide +kernel⟩
noncomputable def kc:FS:=(zj (eOp oIx (eL (q0a (qa (eC (.int 1)) (qa (eC (.int 2)) (qa (eC (.int 4)) (qa (eC (.int 8)) (qa (eC (.int 16)) (qa (eC (.int 32)) (qa (eC (.int 64)) (qa (eC (.int 128)) (qa (eC (.int 256)) (qa (eC (.int 512)) (qa (eC (.int 1024)) (qa (eC (.int 2048)) (qa (eC (.int 4096)) qg))))))))))))))) (eV 0)))
noncomputable def vv:List D->Option D:=zb 1 kc
theorem q2j{fa:Addr}{cdv:Value}{A:Around}{outer:List Env}{s:Shared}{H:Hp}{E:XK}(hr:Room 0 (A.deeper (envOfC "_law_power" (qe xt) s.heap.objs.size fa cdv))):
  PSs (j3 CX0 P w K mg base q0w "_law_power" (qe xt) fa cdv A outer s H E).nox (z0 xt) (tDS K kc):=by
 unfold kc;refine(qq ?_);refine(z5 ?_);refine(xi ?_ ?_);refine(jq ?_);refine(q0b ?_);walk_at "A";exact qd;walk_at "A";exact qd;walk_at "A";exact qd;walk_at "A";exact qd;walk_at "A";exact qd;walk_at "A";exact qd;walk_at "A";exact qd;walk_at "A";exact qd;walk_at "A";exact qd;walk_at "A";exact qd;walk_at "A";exact qd;walk_at "A";exact qd;walk_at "A";exact qd;exact qf;exact(q0 (pv 0))
theorem q8a{fa:Addr}{dV:Value}{fd:FuncData}(F:Fun2 K "_law_power" "_law_power" xt dV fa fd): FnOk P w K mg base CX0 1 fa fd ["_law_many"] (spD K 1 vv):=
 F.okn (k:=0) (n:=1) (ar:=1) (k1:=1) (u:=kc) q89 rfl rfl rfl fun cdv A outer s H E hr=>(by first|(with_reducible exact q2j  hr)|exact q2j  hr)
abbrev ya:Stmt:=top 26
noncomputable def q2k:List Str:=["_law_number","_law_wares","_law_most"]
theorem qb2:(q2k).Nodup:=by decide +kernel
theorem qb3:FnScope q2k ["_law_number","_law_wares","_law_most"] (qe ya):=⟨rfl,rfl,rfl,qb2,rfl,by decide +kernel,by decide +kernel⟩
noncomputable def ku:FS:=(zj (x5 (qa (eOp zk (eC (.int 1)) (eOp oMod (eOp oDiv (eV 0) (eC (.int 4096))) (eV 2))) (qa (qh (qo 1 [] kr) (qa (eOp oMod (eV 0) (qh (qo 1 [] vv) (qa (eV 1) qg))) qg)) qg))))
noncomputable def jx:List D->Option D:=zb 3 ku
theorem q4v{fa:Addr}{cdv:Value}{A:Around}{outer:List Env}{s:Shared}{H:Hp}{E:XK}{a__law_set:Addr}{fd__law_set:FuncData}(c_11:Cal P w K mg base "_law_set" 1 ["_law_mark"] 1 kr a__law_set fd__law_set)(b_11:Binds K fd__law_set ["_law_mark"] []){a__law_power:Addr}{fd__law_power:FuncData}(c_9:Cal P w K mg base "_law_power" 1 ["_law_many"] 1 vv a__law_power fd__law_power)(b_9:Binds K fd__law_power ["_law_many"] [])(hr:Room 1 (A.deeper (envOfC "_law_run" (qe ya) s.heap.objs.size fa cdv))):
  PSs (j3 CX0 P w K mg base q2k "_law_run" (qe ya) fa cdv A outer s H E).nox (z0 ya) (tDS K ku):=by
 unfold ku;refine(qq ?_);refine(z5 ?_);refine(xp ?_);walk_at "A";refine(qi zt qd ?_);refine(qi zg ?_ ?_);refine(qi q08 ?_ qd);exact(q0 (pv 0));exact(q0 (pv 2));walk_at "A";refine(qz c_11 b_11 hr (by decide) rfl ?_);walk_at "A";refine(qi zg ?_ ?_);exact(q0 (pv 0));refine(qz c_9 b_9 hr (by decide) rfl ?_);walk_at "A";exact(q0 (pv 1));exact qf;exact qf;exact qf
theorem qb4{fa:Addr}{dV:Value}{fd:FuncData}(F:Fun2 K "_law_run" "_law_run" ya dV fa fd){a__law_set:Addr}{fd__law_set:FuncData}(c_11:Cal P w K mg base "_law_set" 1 ["_law_mark"] 1 kr a__law_set fd__law_set)(b_11:Binds K fd__law_set ["_law_mark"] []){a__law_power:Addr}{fd__law_power:FuncData}(c_9:Cal P w K mg base "_law_power" 1 ["_law_many"] 1 vv a__law_power fd__law_power)(b_9:Binds K fd__law_power ["_law_many"] []): FnOk P w K mg base CX0 2 fa fd ["_law_number","_law_wares","_law_most"] (spD K 3 jx):=
 F.okn (k:=1) (n:=3) (ar:=3) (k1:=2) (u:=ku) qb3 rfl rfl rfl fun cdv A outer s H E hr=>(by first|(with_reducible exact q4v c_11 b_11 c_9 b_9 hr)|exact q4v c_11 b_11 c_9 b_9 hr)
abbrev xu:Stmt:=top 23
noncomputable def q0x:List Str:=["_law_script","_law_k","_law_number"]
theorem yn:(q0x).Nodup:=by decide +kernel
theorem q8b:FnScope q0x ["_law_script","_law_k"] (qe xu):=⟨rfl,rfl,rfl,yn,rfl,by decide +kernel,by decide +kernel⟩
noncomputable def xv:FS:=(qt (zp 2 (eOp zk (eOp zv (eC (.int 5)) (eV 1)) (eC (.int 2)))) (qt (sIf (vm oGt (qh vn (qa (eV 0) qg)) (eC (.int 0))) (zp 2 (eOp oMod (eOp oIx (eV 0) (eOp oMod (eV 1) (qh vn (qa (eV 0) qg)))) (eC (.int 2147483629)))) x8) (qt (zp 2 (eOp oMod (eOp zk (eOp zk (eOp zv (eV 2) (eC (.int 48271))) (eOp zv (eOp zv (eV 1) (eV 1)) (eC (.int 69621)))) (eC (.int 11))) (eC (.int 2147483647)))) (zj (eOp oMod (eOp zv (eV 2) (eV 2)) (eC (.int 2147483629)))))))
noncomputable def qv:List D->Option D:=zb 3 xv
theorem q2l{fa:Addr}{cdv:Value}{A:Around}{outer:List Env}{s:Shared}{H:Hp}{E:XK}(n_len:mg "len" = none)(hr:Room 0 (A.deeper (envOfC "_law_mixed" (qe xu) s.heap.objs.size fa cdv))):
  PSs (j3 CX0 P w K mg base q0x "_law_mixed" (qe xu) fa cdv A outer s H E).nox (z0 xu) (tDS K xv):=by
 unfold xv;refine(qk ?_ ?_);refine(z9 (i:=2) ?_ ?_ ?_ ?_ ?_ ?_);exact yn;exact rfl;exact(Or.inl rfl);refine(qi zt ?_ qd);refine(qi j5 qd ?_);exact(q0 (pv 1));exact rfl;walk_at "L";refine(qk ?_ ?_);refine(ju ?_ (qq ?_) ja);refine(xn q4h ?_ qd);refine(zl (yi) rfl n_len DL.zr ?_);walk_at "A";exact(q0 (pv 0));exact qf;refine(z9 (i:=2) ?_ ?_ ?_ ?_ ?_ ?_);exact yn;exact rfl;exact(Or.inl rfl);refine(qi zg ?_ qd);refine(xi ?_ ?_);exact(q0 (pv 0));refine(qi zg ?_ ?_);exact(q0 (pv 1));refine(zl (yi) rfl n_len DL.zr ?_);walk_at "A";exact(q0 (pv 0));exact qf;exact rfl;walk_at "L";refine(qk ?_ ?_);refine(z9 (i:=2) ?_ ?_ ?_ ?_ ?_ ?_);exact yn;exact rfl;exact(Or.inl rfl);refine(qi zg ?_ qd);refine(qi zt ?_ qd);refine(qi zt ?_ ?_);refine(qi j5 ?_ qd);exact(q0 (pv 2));refine(qi j5 ?_ qd);refine(qi j5 ?_ ?_);exact(q0 (pv 1));exact(q0 (pv 1));exact rfl;walk_at "L";refine(qq ?_);refine(z5 ?_);refine(qi zg ?_ qd);refine(qi j5 ?_ ?_);exact(q0 (pv 2));exact(q0 (pv 2))
theorem q8c{fa:Addr}{dV:Value}{fd:FuncData}(F:Fun2 K "_law_mixed" "_law_mixed" xu dV fa fd)(n_len:mg "len" = none): FnOk P w K mg base CX0 1 fa fd ["_law_script","_law_k"] (spD K 2 qv):=
 F.okn (k:=0) (n:=3) (ar:=2) (k1:=1) (u:=xv) q8b rfl rfl rfl fun cdv A outer s H E hr=>(by first|(with_reducible exact q2l n_len hr)|exact q2l n_len hr)
abbrev vh:Stmt:=top 27
noncomputable def q1p:List Str:=["_law_script","_law_most_wares","_law_first","_law_wares","_law_most","_law_runs","_law_k","_law_number"]
theorem j9:(q1p).Nodup:=by decide +kernel
theorem q97:FnScope q1p ["_law_script","_law_most_wares"] (qe vh):=⟨rfl,rfl,rfl,j9,rfl,by decide +kernel,by decide +kernel⟩
theorem q6s:(["_law_cell","_law_wares","_law_most"]:List Str).Nodup:=by decide +kernel
noncomputable def je:FS:=(qt (zp 7 (eOp zk (eOp zv (qh (qo 2 [] qv) (qa (eV 0) (qa (eOp zk (eOp zv (eC (.int 3)) (eV 6)) (eC (.int 1))) qg))) (eC (.int 4096))) (eOp oMod (qh (qo 2 [] qv) (qa (eV 0) (qa (eOp zk (eOp zv (eC (.int 3)) (eV 6)) (eC (.int 2))) qg))) (eC (.int 4096))))) (qt (sIf (q3t (vm oGt (eV 6) (eC (.int 1))) (vm oEq (eOp oMod (qh (qo 2 [] qv) (qa (eV 0) (qa (eOp zk (eOp zv (eC (.int 3)) (eV 6)) (eC (.int 3))) qg))) (eC (.int 3))) (eC (.int 0)))) (zp 7 (eOp zk (eOp zv (eOp oDiv (eV 7) (eC (.int 4096))) (eC (.int 4096))) (eOp oMod (eOp zv (eOp oDiv (eOp oMod (eV 7) (eC (.int 4096))) (eC (.int 8))) (eC (.int 8))) (eC (.int 4096))))) x8) (q0d 5 (qh (qo 3 [] jx) (qa (eV 7) (qa (eV 3) (qa (eV 4) qg)))))))
noncomputable def xl:FS:=(qt (zp 2 (eC (.int 0))) (qt (sIf (vm oGt (qh vn (qa (eV 0) qg)) (eC (.int 0))) (zp 2 (eOp oIx (eV 0) (eC (.int 0)))) x8) (qt (zp 3 (eOp oMod (eV 2) (eOp zk (eV 1) (eC (.int 1))))) (qt (zp 4 (eOp oIx (eL (q0a (qa (eC (.int 3)) (qa (eC (.int 40)) (qa (eOp oPow (eC (.int 10)) (eC (.int 12))) qg))))) (eOp oMod (eOp oDiv (eV 2) (eC (.int 16))) (eC (.int 3))))) (qt (sIf (vm oEq (eOp oMod (eOp oDiv (eV 2) (eC (.int 48))) (eC (.int 2))) (eC (.int 0))) (zj (x5 (qa (eV 3) (qa (qh jw (qa (eL (zf (jr (eSl (eV 0) (oAt (eC (.int 1))) (oAt (eC (.int 63))))) [none,some 3,some 4] (bN 0) z7 (qh (qo 3 [] jx) (qa (eV 0) (qa (eV 1) (qa (eV 2) qg)))))) qg)) qg)))) x8) (qt (q0c 5 (q0a qg)) (qt (q3w (iR1 (qa (eOp oMod (eOp oDiv (eV 2) (eC (.int 96))) (eC (.int 25))) qg)) (bN 6) je) (w8 5 (zj (x5 (qa (eV 3) (qa (qh jw (qa (eV 5) qg)) qg))))))))))))
noncomputable def jy:List D->Option D:=zb 8 xl
theorem q3i{fa:Addr}{cdv:Value}{A:Around}{outer:List Env}{s:Shared}{H:Hp}{E:XK}{a__law_run:Addr}{fd__law_run:FuncData}(c_10:Cal P w K mg base "_law_run" 2 ["_law_number","_law_wares","_law_most"] 3 jx a__law_run fd__law_run)(b_10:Binds K fd__law_run ["_law_number","_law_wares","_law_most"] []){a__law_mixed:Addr}{fd__law_mixed:FuncData}(c_6:Cal P w K mg base "_law_mixed" 1 ["_law_script","_law_k"] 2 qv a__law_mixed fd__law_mixed)(b_6:Binds K fd__law_mixed ["_law_script","_law_k"] [])(n_range:mg "range" = none)(n_len:mg "len" = none)(n_tuple:mg "tuple" = none)(hr:Room 2 (A.deeper (envOfC "_law_pile" (qe vh) s.heap.objs.size fa cdv))):
  PSs (j3 CX0 P w K mg base q1p "_law_pile" (qe vh) fa cdv A outer s H E).nox (z0 vh) (tDS K xl):=by
 unfold xl je;refine(qk ?_ ?_);refine(z9 (i:=2) ?_ ?_ ?_ qd ?_ ?_);exact j9;exact rfl;exact(Or.inl rfl);exact rfl;walk_at "L";refine(qk ?_ ?_);refine(ju ?_ (qq ?_) ja);refine(xn q4h ?_ qd);refine(zl (yi) rfl n_len DL.zr ?_);walk_at "A";exact(q0 (pv 0));exact qf;refine(z9 (i:=2) ?_ ?_ ?_ ?_ ?_ ?_);exact j9;exact rfl;exact(Or.inl rfl);refine(xi ?_ qd);exact(q0 (pv 0));exact rfl;walk_at "L";refine(qk ?_ ?_);refine(z9 (i:=3) ?_ ?_ ?_ ?_ ?_ ?_);exact j9;exact rfl;exact(Or.inr rfl);refine(qi zg ?_ ?_);exact(q0 (pv 2));refine(qi zt ?_ qd);exact(q0 (pv 1));exact rfl;walk_at "L";refine(qk ?_ ?_);refine(z9 (i:=4) ?_ ?_ ?_ ?_ ?_ ?_);exact j9;exact rfl;exact(Or.inr rfl);refine(xi ?_ ?_);refine(jq ?_);refine(q0b ?_);walk_at "A";exact qd;walk_at "A";exact qd;walk_at "A";exact(qi qij qd qd);exact qf;refine(qi zg ?_ qd);refine(qi q08 ?_ qd);exact(q0 (pv 2));exact rfl;walk_at "L";refine(qk ?_ ?_);refine(ju ?_ (qq ?_) ja);refine(xn (kb hr.units) ?_ qd);refine(qi zg ?_ qd);refine(qi q08 ?_ qd);exact(q0 (pv 2));refine(z5 ?_);refine(xp ?_);walk_at "A";exact(q0 (pv 3));walk_at "A";refine(zy (vy) rfl n_tuple DL.boot_tuple ?_);walk_at "A";refine(jq ?_);refine(zx (N':=["_law_cell","_law_wares","_law_most"]) (cap:=[none,some 3,some 4]) rfl (zd rfl rfl) (zq rfl) ?_ (fun _ _ _ _ _=>(qx q6s rfl (Or.inl rfl) (.inr rfl))) (fun _ _ _ _ _=>j4) (fun _ _ _ _ _=>?_));refine(jv ?_);refine(q7p ?_ (xj qd) (xj qd));exact(q0 (pv 0));refine(qz c_10 b_10 hr (by decide) rfl ?_);walk_at "A";exact(q0 (pv 0));walk_at "A";exact(q0 (pv 1));walk_at "A";exact(q0 (pv 2));exact qf;exact qf;exact qf;refine(qk ?_ ?_);exact(q7i (i:=5) j9 rfl (Or.inl rfl) (q0b qf));refine(qk ?_ ?_);refine(q7l g09 rfl ?_ (qx j9 rfl (Or.inl rfl) (.inl rfl)) (qk ?_ ?_));refine(y4 rfl n_range ?_);walk_at "A";refine(qi zg ?_ qd);refine(qi q08 ?_ qd);exact(q0 (pv 2));exact qf;refine(z9 (i:=7) ?_ ?_ ?_ ?_ ?_ ?_);exact j9;exact rfl;exact(Or.inl rfl);refine(qi zt ?_ ?_);refine(qi j5 ?_ qd);refine(qz c_6 b_6 hr (by decide) rfl ?_);walk_at "A";exact(q0 (pv 0));walk_at "A";refine(qi zt ?_ qd);refine(qi j5 qd ?_);exact(q0 (pv 6));exact qf;refine(qi zg ?_ qd);refine(qz c_6 b_6 hr (by decide) rfl ?_);walk_at "A";exact(q0 (pv 0));walk_at "A";refine(qi zt ?_ qd);refine(qi j5 qd ?_);exact(q0 (pv 6));exact qf;exact rfl;walk_at "L";refine(qk ?_ ?_);refine(ju ?_ (qq ?_) ja);refine(PW.pt (qin ?_ (qgc ?_)));refine(xn q4h ?_ qd);exact(q0 (pv 6));refine(xn (kb hr.units) ?_ qd);refine(qi zg ?_ qd);refine(qz c_6 b_6 hr (by decide) rfl ?_);walk_at "A";exact(q0 (pv 0));walk_at "A";refine(qi zt ?_ qd);refine(qi j5 qd ?_);exact(q0 (pv 6));exact qf;refine(z9 (i:=7) ?_ ?_ ?_ ?_ ?_ ?_);exact j9;exact rfl;exact(Or.inl rfl);refine(qi zt ?_ ?_);refine(qi j5 ?_ qd);refine(qi q08 ?_ qd);exact(q0 (pv 7));refine(qi zg ?_ qd);refine(qi j5 ?_ qd);refine(qi q08 ?_ qd);refine(qi zg ?_ qd);exact(q0 (pv 7));exact rfl;walk_at "L";refine(qq ?_);refine(q7j (pv 5) ?_);refine(qz c_10 b_10 hr (by decide) rfl ?_);walk_at "A";exact(q0 (pv 7));walk_at "A";exact(q0 (pv 3));walk_at "A";exact(q0 (pv 4));exact qf;refine(q16 5 (qq ?_));refine(z5 ?_);refine(xp ?_);walk_at "A";exact(q0 (pv 3));walk_at "A";refine(zy (vy) rfl n_tuple DL.boot_tuple ?_);walk_at "A";exact(q0 (pv 5));exact qf;exact qf
theorem q98{fa:Addr}{dV:Value}{fd:FuncData}(F:Fun2 K "_law_pile" "_law_pile" vh dV fa fd){a__law_run:Addr}{fd__law_run:FuncData}(c_10:Cal P w K mg base "_law_run" 2 ["_law_number","_law_wares","_law_most"] 3 jx a__law_run fd__law_run)(b_10:Binds K fd__law_run ["_law_number","_law_wares","_law_most"] []){a__law_mixed:Addr}{fd__law_mixed:FuncData}(c_6:Cal P w K mg base "_law_mixed" 1 ["_law_script","_law_k"] 2 qv a__law_mixed fd__law_mixed)(b_6:Binds K fd__law_mixed ["_law_script","_law_k"] [])(n_range:mg "range" = none)(n_len:mg "len" = none)(n_tuple:mg "tuple" = none): FnOk P w K mg base CX0 3 fa fd ["_law_script","_law_most_wares"] (spD K 2 jy):=
 F.okn (k:=2) (n:=8) (ar:=2) (k1:=3) (u:=xl) q97 rfl rfl rfl fun cdv A outer s H E hr=>(by first|(with_reducible exact q3i c_10 b_10 c_6 b_6 n_range n_len n_tuple hr)|exact q3i c_10 b_10 c_6 b_6 n_range n_len n_tuple hr)
abbrev yb:Stmt:=top 14
noncomputable def q2m:List Str:=["names","number","some"]
theorem qb5:(q2m).Nodup:=by decide +kernel
theorem qb6:FnScope q2m ["names","number","some"] (qe yb):=⟨rfl,rfl,rfl,qb5,rfl,by decide +kernel,by decide +kernel⟩
theorem q8d:(["ware","names"]:List Str).Nodup:=by decide +kernel
noncomputable def q0n:FS:=(zj (eOp xk (qax (eV 1) ":") (eOp vg (eC (.str "")) (eL (zf (jr (eV 2)) [none,some 0] (bN 0) z7 (eOp xk (eC (.str " ")) (eOp oIx (eV 1) (eV 0))))))))
noncomputable def jj:List D->Option D:=zb 3 q0n
theorem q4w{fa:Addr}{cdv:Value}{A:Around}{outer:List Env}{s:Shared}{H:Hp}{E:XK}(hr:Room 0 (A.deeper (envOfC "line_of" (qe yb) s.heap.objs.size fa cdv))):
  PSs (j3 CX0 P w K mg base q2m "line_of" (qe yb) fa cdv A outer s H E).nox (z0 yb) (tDS K q0n):=by
 unfold q0n;refine(qq ?_);refine(z5 ?_);refine(qi yy ?_ ?_);refine(qj5 ?_ (by decide));exact(q0 (pv 1));refine(wy jo ?_);refine(jq ?_);refine(zx (N':=["ware","names"]) (cap:=[none,some 0]) rfl (zd rfl rfl) (zq rfl) ?_ (fun _ _ _ _ _=>(qx q8d rfl (Or.inl rfl) (.inr rfl))) (fun _ _ _ _ _=>j4) (fun _ _ _ _ _=>?_));refine(jv ?_);exact(q0 (pv 2));refine(qi yy jo ?_);refine(xi ?_ ?_);exact(q0 (pv 1));exact(q0 (pv 0))
theorem qb7{fa:Addr}{dV:Value}{fd:FuncData}(F:Fun2 K "line_of" "line_of" yb dV fa fd): FnOk P w K mg base CX0 1 fa fd ["names","number","some"] (spD K 3 jj):=
 F.okn (k:=0) (n:=3) (ar:=3) (k1:=1) (u:=q0n) qb6 rfl rfl rfl fun cdv A outer s H E hr=>(by first|(with_reducible exact q4w  hr)|exact q4w  hr)
abbrev wz:Stmt:=top 12
noncomputable def q5n:List Str:=["names","pile"]
theorem qep:(q5n).Nodup:=by decide +kernel
theorem qeq:FnScope q5n ["names","pile"] (qe wz):=⟨rfl,rfl,rfl,qep,rfl,by decide +kernel,by decide +kernel⟩
theorem q4x:(["many","basket","names"]:List Str).Nodup:=by decide +kernel
noncomputable def q38:FS:=(zj (eOp vg (eC (.str "\n")) (eL (zf (jr (eOp oIx (eV 1) (eC (.int 1)))) [none,none,some 0] (xh 2 (za (bN 0) (za (bN 1) xg))) z7 (qh (qo 3 [] jj) (qa (eV 2) (qa (eV 0) (qa (eV 1) qg))))))))
noncomputable def q00:List D->Option D:=zb 2 q38
theorem q8e{fa:Addr}{cdv:Value}{A:Around}{outer:List Env}{s:Shared}{H:Hp}{E:XK}{a_line_of:Addr}{fd_line_of:FuncData}(c_12:Cal P w K mg base "line_of" 1 ["names","number","some"] 3 jj a_line_of fd_line_of)(b_12:Binds K fd_line_of ["names","number","some"] [])(hr:Room 1 (A.deeper (envOfC "shown" (qe wz) s.heap.objs.size fa cdv))):
  PSs (j3 CX0 P w K mg base q5n "shown" (qe wz) fa cdv A outer s H E).nox (z0 wz) (tDS K q38):=by
 unfold q38;refine(qq ?_);refine(z5 ?_);refine(wy jo ?_);refine(jq ?_);refine(zx (N':=["many","basket","names"]) (cap:=[none,none,some 0]) rfl (zd rfl rfl) (y6 (zi rfl (zi rfl vf))) ?_ (fun _ _ _ _ _=>(q0f rfl (jd (qx q4x rfl (Or.inl rfl) (.inr rfl)) (jd (qx q4x rfl (Or.inl rfl) (.inr rfl)) q0e)))) (fun _ _ _ _ _=>j4) (fun _ _ _ _ _=>?_));refine(jv ?_);refine(xi ?_ qd);exact(q0 (pv 1));refine(qz c_12 b_12 hr (by decide) rfl ?_);walk_at "A";exact(q0 (pv 2));walk_at "A";exact(q0 (pv 0));walk_at "A";exact(q0 (pv 1));exact qf
theorem qer{fa:Addr}{dV:Value}{fd:FuncData}(F:Fun2 K "shown" "shown" wz dV fa fd){a_line_of:Addr}{fd_line_of:FuncData}(c_12:Cal P w K mg base "line_of" 1 ["names","number","some"] 3 jj a_line_of fd_line_of)(b_12:Binds K fd_line_of ["names","number","some"] []): FnOk P w K mg base CX0 2 fa fd ["names","pile"] (spD K 2 q00):=
 F.okn (k:=1) (n:=2) (ar:=2) (k1:=2) (u:=q38) qeq rfl rfl rfl fun cdv A outer s H E hr=>(by first|(with_reducible exact q8e c_12 b_12 hr)|exact q8e c_12 b_12 hr)
abbrev xw:Stmt:=top 28
noncomputable def q0y:List Str:=["_law_script","_law_letters","_law_many","_law_turn","_law_word","_law_first","_law_more","_law_size","_law_stem","_law_at"]
theorem jb:(q0y).Nodup:=by decide +kernel
theorem q8f:FnScope q0y ["_law_script","_law_letters","_law_many"] (qe xw):=⟨rfl,rfl,rfl,jb,rfl,by decide +kernel,by decide +kernel⟩
theorem q5o:(["_law_k","_law_letters","_law_script"]:List Str).Nodup:=by decide +kernel
theorem q5p:(["_law_k","_law_letters","_law_first"]:List Str).Nodup:=by decide +kernel
theorem q5q:(["_law_k","_law_word"]:List Str).Nodup:=by decide +kernel
theorem q5r:(["_law_k","_law_stem","_law_letters","_law_at","_law_turn"]:List Str).Nodup:=by decide +kernel
noncomputable def ke:FS:=(qt (zp 3 (qh (qo 2 [] qv) (qa (eV 0) (qa (eC (.int 301)) qg)))) (qt (zp 4 (eOp vg (eC (.str "")) (eL (zf (iR1 (qa (eC (.int 8)) qg)) [none,some 1,some 0] (bN 0) z7 (eOp yl (eV 1) (eOp oMod (qh (qo 2 [] qv) (qa (eV 2) (qa (eOp zk (eC (.int 303)) (eV 0)) qg))) (eC (.int 26)))))))) (qt (sIf (vm oEq (eOp oMod (qh (qo 2 [] qv) (qa (eV 0) (qa (eC (.int 312)) qg))) (eC (.int 4))) (eC (.int 0))) (qt (zp 5 (eOp (q33 q1m) (eV 1) (eOp yl (eV 4) (eC (.int 0))))) (qt (q0c 6 (zf (iR2 (qa (eC (.int 1)) (qa (qh oMax (qa (eC (.int 1)) (qa (eOp oSub (eV 2) (eC (.int 7))) qg))) qg))) [none,some 1,some 5] (bN 0) z7 (eOp yl (eV 1) (eOp oMod (eOp zk (eV 2) (eV 0)) (eC (.int 26)))))) (w8 6 (zj (eOp zk (eL (zf (iR1 (qa (qh oMin (qa (eV 2) (qa (eC (.int 8)) qg))) qg)) [none,some 4] (bN 0) z7 (w9 (eV 1) oNo (oAt (eOp zk (eV 0) (eC (.int 1))))))) (eV 6)))))) x8) (w8 6 (qt (zp 7 (eOp oMod (qh (qo 2 [] qv) (qa (eV 0) (qa (eC (.int 302)) qg))) (eC (.int 8)))) (qt (zp 8 (w9 (eV 4) oNo (oAt (eV 7)))) (qt (zp 9 (eOp oMod (qh (qo 2 [] qv) (qa (eV 0) (qa (eC (.int 311)) qg))) (eOp zk (eV 7) (eC (.int 1))))) (zj (eL (zf (iR1 (qa (eV 2) qg)) [none,some 8,some 1,some 9,some 3] (bN 0) z7 (eOp xk (eOp xk (w9 (eV 1) oNo (oAt (eV 3))) (eOp yl (eV 2) (eOp oMod (eOp zk (eV 4) (eOp zv (eC (.int 5)) (eV 0))) (eC (.int 26))))) (w9 (eV 1) (oAt (eV 3)) oNo))))))))))))
noncomputable def vw:List D->Option D:=zb 10 ke
theorem q2n{fa:Addr}{cdv:Value}{A:Around}{outer:List Env}{s:Shared}{H:Hp}{E:XK}{a__law_mixed:Addr}{fd__law_mixed:FuncData}(c_6:Cal P w K mg base "_law_mixed" 1 ["_law_script","_law_k"] 2 qv a__law_mixed fd__law_mixed)(b_6:Binds K fd__law_mixed ["_law_script","_law_k"] [])(n_range:mg "range" = none)(n_max:mg "max" = none)(n_min:mg "min" = none)(hr:Room 1 (A.deeper (envOfC "_law_names" (qe xw) s.heap.objs.size fa cdv))):
  PSs (j3 CX0 P w K mg base q0y "_law_names" (qe xw) fa cdv A outer s H E).nox (z0 xw) (tDS K ke):=by
 unfold ke;refine(qk ?_ ?_);refine(z9 (i:=3) ?_ ?_ ?_ ?_ ?_ ?_);exact jb;exact rfl;exact(Or.inr rfl);refine(qz c_6 b_6 hr (by decide) rfl ?_);walk_at "A";exact(q0 (pv 0));walk_at "A";exact qd;exact qf;exact rfl;walk_at "L";refine(qk ?_ ?_);refine(z9 (i:=4) ?_ ?_ ?_ ?_ ?_ ?_);exact jb;exact rfl;exact(Or.inr rfl);refine(wy jo ?_);refine(jq ?_);refine(zx (N':=["_law_k","_law_letters","_law_script"]) (cap:=[none,some 1,some 0]) rfl (zd rfl rfl) (zq rfl) ?_ (fun _ _ _ _ _=>(qx q5o rfl (Or.inl rfl) (.inr rfl))) (fun _ _ _ _ _=>j4) (fun _ _ _ _ _=>?_));refine(y4 rfl n_range ?_);walk_at "A";exact qd;exact qf;refine(q2f ?_ ?_);exact(q0 (pv 1));refine(qi zg ?_ qd);refine(qz c_6 b_6 hr (by decide) rfl ?_);walk_at "A";exact(q0 (pv 2));walk_at "A";refine(qi zt qd ?_);exact(q0 (pv 0));exact qf;exact rfl;walk_at "L";refine(qk ?_ ?_);refine(ju ?_ (qk ?_ ?_) ja);refine(xn (kb hr.units) ?_ qd);refine(qi zg ?_ qd);refine(qz c_6 b_6 hr (by decide) rfl ?_);walk_at "A";exact(q0 (pv 0));walk_at "A";exact qd;exact qf;refine(z9 (i:=5) ?_ ?_ ?_ ?_ ?_ ?_);exact jb;exact rfl;exact(Or.inr rfl);refine(qfl PySem.F.slot_str_index PySem.F.type_str_index qj3 qj6 ?_ ?_);exact(q0 (pv 1));refine(q2f ?_ qd);exact(q0 (pv 4));exact rfl;walk_at "L";refine(qk ?_ ?_);refine(q9s (i:=6) rfl jb rfl rfl (N':=["_law_k","_law_letters","_law_first"]) (cap:=[none,some 1,some 5]) (zd rfl rfl) (zq rfl) ?_ (fun _ _ _ _ _=>(qx q5p rfl (Or.inl rfl) (.inr rfl))) (fun _ _ _ _ _=>j4) (fun _ _ _ _ _=>?_));refine(qci rfl n_range ?_);walk_at "A";exact qd;walk_at "A";refine(zl (qiu rfl) rfl n_max DL.boot_max ?_);walk_at "A";exact qd;walk_at "A";refine(qi qih ?_ qd);exact(q0 (pv 2));exact qf;exact qf;refine(q2f ?_ ?_);exact(q0 (pv 1));refine(qi zg ?_ qd);refine(qi zt ?_ ?_);exact(q0 (pv 2));exact(q0 (pv 0));refine(q16 6 (qq ?_));refine(z5 ?_);refine(qi zt ?_ ?_);refine(jq ?_);refine(zx (N':=["_law_k","_law_word"]) (cap:=[none,some 4]) rfl (zd rfl rfl) (zq rfl) ?_ (fun _ _ _ _ _=>(qx q5q rfl (Or.inl rfl) (.inr rfl))) (fun _ _ _ _ _=>j4) (fun _ _ _ _ _=>?_));refine(y4 rfl n_range ?_);walk_at "A";refine(zl (qit rfl) rfl n_min DL.boot_min ?_);walk_at "A";exact(q0 (pv 2));walk_at "A";exact qd;exact qf;exact qf;refine(y8 ?_ vz (xj ?_));exact(q0 (pv 1));refine(qi zt ?_ qd);exact(q0 (pv 0));exact(q0 (pv 6));refine(q16 6 (qk ?_ ?_));refine(z9 (i:=7) ?_ ?_ ?_ ?_ ?_ ?_);exact jb;exact rfl;exact(Or.inl rfl);refine(qi zg ?_ qd);refine(qz c_6 b_6 hr (by decide) rfl ?_);walk_at "A";exact(q0 (pv 0));walk_at "A";exact qd;exact qf;exact rfl;walk_at "L";refine(qk ?_ ?_);refine(z9 (i:=8) ?_ ?_ ?_ ?_ ?_ ?_);exact jb;exact rfl;exact(Or.inr rfl);refine(y8 ?_ vz (xj ?_));exact(q0 (pv 4));exact(q0 (pv 7));exact rfl;walk_at "L";refine(qk ?_ ?_);refine(z9 (i:=9) ?_ ?_ ?_ ?_ ?_ ?_);exact jb;exact rfl;exact(Or.inr rfl);refine(qi zg ?_ ?_);refine(qz c_6 b_6 hr (by decide) rfl ?_);walk_at "A";exact(q0 (pv 0));walk_at "A";exact qd;exact qf;refine(qi zt ?_ qd);exact(q0 (pv 7));exact rfl;walk_at "L";refine(qq ?_);refine(z5 ?_);refine(jq ?_);refine(zx (N':=["_law_k","_law_stem","_law_letters","_law_at","_law_turn"]) (cap:=[none,some 8,some 1,some 9,some 3]) rfl (zd rfl rfl) (zq rfl) ?_ (fun _ _ _ _ _=>(qx q5r rfl (Or.inl rfl) (.inr rfl))) (fun _ _ _ _ _=>j4) (fun _ _ _ _ _=>?_));refine(y4 rfl n_range ?_);walk_at "A";exact(q0 (pv 2));exact qf;refine(qi yy ?_ ?_);refine(qi yy ?_ ?_);refine(y8 ?_ vz (xj ?_));exact(q0 (pv 1));exact(q0 (pv 3));refine(q2f ?_ ?_);exact(q0 (pv 2));refine(qi zg ?_ qd);refine(qi zt ?_ ?_);exact(q0 (pv 4));refine(qi j5 qd ?_);exact(q0 (pv 0));refine(y8 ?_ (xj ?_) vz);exact(q0 (pv 1));exact(q0 (pv 3))
theorem q8g{fa:Addr}{dV:Value}{fd:FuncData}(F:Fun2 K "_law_names" "_law_names" xw dV fa fd){a__law_mixed:Addr}{fd__law_mixed:FuncData}(c_6:Cal P w K mg base "_law_mixed" 1 ["_law_script","_law_k"] 2 qv a__law_mixed fd__law_mixed)(b_6:Binds K fd__law_mixed ["_law_script","_law_k"] [])(n_range:mg "range" = none)(n_max:mg "max" = none)(n_min:mg "min" = none): FnOk P w K mg base CX0 2 fa fd ["_law_script","_law_letters","_law_many"] (spD K 3 vw):=
 F.okn (k:=1) (n:=10) (ar:=3) (k1:=2) (u:=ke) q8f rfl rfl rfl fun cdv A outer s H E hr=>(by first|(with_reducible exact q2n c_6 b_6 n_range n_max n_min hr)|exact q2n c_6 b_6 n_range n_max n_min hr)
abbrev yz:Stmt:=top 30
noncomputable def q3z:List Str:=["_law_found","_law_lines"]
theorem qcy:(q3z).Nodup:=by decide +kernel
theorem qcz:FnScope q3z ["_law_found","_law_lines"] (qe yz):=⟨rfl,rfl,rfl,qcy,rfl,by decide +kernel,by decide +kernel⟩
noncomputable def q1q:FS:=(zj (q0u (q5d .str (eV 0)) (eOp oEq (eV 0) (eOp vg (eC (.str "\n")) (eV 1)))))
noncomputable def y1:List D->Option D:=zb 2 q1q
theorem q6e{fa:Addr}{cdv:Value}{A:Around}{outer:List Env}{s:Shared}{H:Hp}{E:XK}(n_isinstance:mg "isinstance" = none)(n_str:mg "str" = none)(hr:Room 0 (A.deeper (envOfC "_law_is" (qe yz) s.heap.objs.size fa cdv))):
  PSs (j3 CX0 P w K mg base q3z "_law_is" (qe yz) fa cdv A outer s H E).nox (z0 yz) (tDS K q1q):=by
 unfold q1q;refine(qq ?_);refine(z5 ?_);refine(q4j ?_ (q4i ?_));refine(qck .str rfl n_isinstance rfl n_str DL.boot_str ?_);exact(q0 (pv 0));refine(q15 (kb hr.units) ?_ ?_);exact(q0 (pv 0));refine(wy jo ?_);exact(q0 (pv 1))
theorem qd0{fa:Addr}{dV:Value}{fd:FuncData}(F:Fun2 K "_law_is" "_law_is" yz dV fa fd)(n_isinstance:mg "isinstance" = none)(n_str:mg "str" = none): FnOk P w K mg base CX0 1 fa fd ["_law_found","_law_lines"] (spD K 2 y1):=
 F.okn (k:=0) (n:=2) (ar:=2) (k1:=1) (u:=q1q) qcz rfl rfl rfl fun cdv A outer s H E hr=>(by first|(with_reducible exact q6e n_isinstance n_str hr)|exact q6e n_isinstance n_str hr)
abbrev yc:Stmt:=top 18
noncomputable def q2o:List Str:=["word"]
theorem qb8:(q2o).Nodup:=by decide +kernel
theorem qb9:FnScope q2o ["word"] (qe yc):=⟨rfl,rfl,rfl,qb8,rfl,by decide +kernel,by decide +kernel⟩
theorem q8h:(["sign"]:List Str).Nodup:=by decide +kernel
noncomputable def q0o:FS:=(qt (sIf (w6 (q4q oLe oLe (eC (.int 1)) (qh vn (qa (eV 0) qg)) (qh vn (qa (qh q5m (qa (eC (.int 1000000000000)) qg)) qg)))) (zj (eC (.bl false))) x8) (qt (sIf (bOr (vm oEq (eOp yl (eV 0) (eC (.int 0))) (eC (.str "0"))) (w6 (bT (qh q5e (qa (eL (zf (q81 (eV 0)) [none] (bN 0) z7 (eOp q2e (eV 0) (eC (.str "0123456789"))))) qg))))) (zj (eC (.bl false))) x8) (zj (eOp oLe (qh q34 (qa (eV 0) qg)) (eC (.int 1000000000000))))))
noncomputable def kx:List D->Option D:=zb 1 q0o
theorem q4y{fa:Addr}{cdv:Value}{A:Around}{outer:List Env}{s:Shared}{H:Hp}{E:XK}(n_int:mg "int" = none)(n_len:mg "len" = none)(n_all:mg "all" = none)(n_str:mg "str" = none)(g_MOST_MANY:∃t,mg "MOST_MANY" = some (.int 1000000000000 t))(gs_FIGURES:∃t,mg "FIGURES" = some (.str "0123456789" t))(hr:Room 0 (A.deeper (envOfC "is_many" (qe yc) s.heap.objs.size fa cdv))):
  PSs (j3 CX0 P w K mg base q2o "is_many" (qe yc) fa cdv A outer s H E).nox (z0 yc) (tDS K q0o):=by
 unfold q0o;refine(qk ?_ ?_);refine(ju ?_ (qq ?_) ja);refine(kn ?_);refine(qei q4g q4g qd ?_ ?_);refine(zl (yi) rfl n_len DL.zr ?_);walk_at "A";exact(q0 (pv 0));exact qf;refine(zl (yi) rfl n_len DL.zr ?_);walk_at "A";refine(zy (qcx) rfl n_str DL.boot_str ?_);walk_at "A";exact(q18 rfl g_MOST_MANY);exact qf;exact qf;exact(z5 q4f);refine(qk ?_ ?_);refine(ju ?_ (qq ?_) ja);refine(PW.pt (qfg ?_ (qcd ?_)));refine(xn (kb hr.units) ?_ jo);refine(q2f ?_ qd);exact(q0 (pv 0));refine(kn ?_);refine(q09 ?_);refine(zl (q7n rfl) rfl n_all DL.boot_all ?_);walk_at "A";refine(jq ?_);refine(zx (N':=["sign"]) (cap:=[none]) rfl (zd rfl rfl) (zq rfl) ?_ (fun _ _ _ _ _=>(qx q8h rfl (Or.inl rfl) (.inr rfl))) (fun _ _ _ _ _=>j4) (fun _ _ _ _ _=>?_));refine(qcr ?_);exact(q0 (pv 0));refine(q15 qcq ?_ ?_);exact(q0 (pv 0));exact(q9z rfl gs_FIGURES);exact qf;exact(z5 q4f);refine(qq ?_);refine(z5 ?_);refine(q15 q4g ?_ ?_);refine(zy (q9x) rfl n_int DL.boot_int ?_);walk_at "A";exact(q0 (pv 0));exact qf;exact(q18 rfl g_MOST_MANY)
theorem qba{fa:Addr}{dV:Value}{fd:FuncData}(F:Fun2 K "is_many" "is_many" yc dV fa fd)(n_int:mg "int" = none)(n_len:mg "len" = none)(n_all:mg "all" = none)(n_str:mg "str" = none)(g_MOST_MANY:∃t,mg "MOST_MANY" = some (.int 1000000000000 t))(gs_FIGURES:∃t,mg "FIGURES" = some (.str "0123456789" t)): FnOk P w K mg base CX0 1 fa fd ["word"] (spD K 1 kx):=
 F.okn (k:=0) (n:=1) (ar:=1) (k1:=1) (u:=q0o) qb9 rfl rfl rfl fun cdv A outer s H E hr=>(by first|(with_reducible exact q4y n_int n_len n_all n_str g_MOST_MANY gs_FIGURES hr)|exact q4y n_int n_len n_all n_str g_MOST_MANY gs_FIGURES hr)
abbrev ye:Stmt:=top 17
noncomputable def q2p:List Str:=["word"]
theorem qbb:(q2p).Nodup:=by decide +kernel
theorem qbc:FnScope q2p ["word"] (qe ye):=⟨rfl,rfl,rfl,qbb,rfl,by decide +kernel,by decide +kernel⟩
noncomputable def q0p:FS:=(zj (q0u (eOp (q33 q2d) (eV 0) (eC (.str ":"))) (qh (qo 1 [] kx) (qa (w9 (eV 0) oNo (oAt (eUn q7s (eC (.int 1))))) qg))))
noncomputable def ky:List D->Option D:=zb 1 q0p
theorem q4z{fa:Addr}{cdv:Value}{A:Around}{outer:List Env}{s:Shared}{H:Hp}{E:XK}{a_is_many:Addr}{fd_is_many:FuncData}(c_2:Cal P w K mg base "is_many" 1 ["word"] 1 kx a_is_many fd_is_many)(b_2:Binds K fd_is_many ["word"] [])(hr:Room 1 (A.deeper (envOfC "is_head" (qe ye) s.heap.objs.size fa cdv))):
  PSs (j3 CX0 P w K mg base q2p "is_head" (qe ye) fa cdv A outer s H E).nox (z0 ye) (tDS K q0p):=by
 unfold q0p;refine(qq ?_);refine(z5 ?_);refine(q4j ?_ (q4i ?_));refine(qfl PySem.F.slot_str_endswith PySem.F.type_str_endswith mt_ends fl_ends ?_ jo);exact(q0 (pv 0));refine(qz c_2 b_2 hr (by decide) rfl ?_);walk_at "A";refine(y8 ?_ vz (xj ?_));exact(q0 (pv 0));exact(qcn qd);exact qf
theorem qbd{fa:Addr}{dV:Value}{fd:FuncData}(F:Fun2 K "is_head" "is_head" ye dV fa fd){a_is_many:Addr}{fd_is_many:FuncData}(c_2:Cal P w K mg base "is_many" 1 ["word"] 1 kx a_is_many fd_is_many)(b_2:Binds K fd_is_many ["word"] []): FnOk P w K mg base CX0 2 fa fd ["word"] (spD K 1 ky):=
 F.okn (k:=1) (n:=1) (ar:=1) (k1:=2) (u:=q0p) qbc rfl rfl rfl fun cdv A outer s H E hr=>(by first|(with_reducible exact q4z c_2 b_2 hr)|exact q4z c_2 b_2 hr)
abbrev yf:Stmt:=top 20
noncomputable def q2q:List Str:=["word"]
theorem qbe:(q2q).Nodup:=by decide +kernel
theorem qbf:FnScope q2q ["word"] (qe yf):=⟨rfl,rfl,rfl,qbe,rfl,by decide +kernel,by decide +kernel⟩
theorem q8i:(["sign"]:List Str).Nodup:=by decide +kernel
noncomputable def q0q:FS:=(zj (q0u (q19 oLe oLe (eC (.int 1)) (qh vn (qa (eV 0) qg)) (eC (.int 8))) (qh q5e (qa (eL (zf (q81 (eV 0)) [none] (bN 0) z7 (eOp q2e (eV 0) (eC (.str "abcdefghijklmnopqrstuvwxyz"))))) qg))))
noncomputable def yg:List D->Option D:=zb 1 q0q
theorem q50{fa:Addr}{cdv:Value}{A:Around}{outer:List Env}{s:Shared}{H:Hp}{E:XK}(n_all:mg "all" = none)(n_len:mg "len" = none)(g_LONGEST_NAME:∃t,mg "LONGEST_NAME" = some (.int 8 t))(gs_SMALL_LETTERS:∃t,mg "SMALL_LETTERS" = some (.str "abcdefghijklmnopqrstuvwxyz" t))(hr:Room 0 (A.deeper (envOfC "is_name" (qe yf) s.heap.objs.size fa cdv))):
  PSs (j3 CX0 P w K mg base q2q "is_name" (qe yf) fa cdv A outer s H E).nox (z0 yf) (tDS K q0q):=by
 unfold q0q;refine(qq ?_);refine(z5 ?_);refine(q4j ?_ (q4i ?_));refine(qeh q4g q4g qd ?_ ?_);refine(zl (yi) rfl n_len DL.zr ?_);walk_at "A";exact(q0 (pv 0));exact qf;exact(q18 rfl g_LONGEST_NAME);refine(zl (q7n rfl) rfl n_all DL.boot_all ?_);walk_at "A";refine(jq ?_);refine(zx (N':=["sign"]) (cap:=[none]) rfl (zd rfl rfl) (zq rfl) ?_ (fun _ _ _ _ _=>(qx q8i rfl (Or.inl rfl) (.inr rfl))) (fun _ _ _ _ _=>j4) (fun _ _ _ _ _=>?_));refine(qcr ?_);exact(q0 (pv 0));refine(q15 qcq ?_ ?_);exact(q0 (pv 0));exact(q9z rfl gs_SMALL_LETTERS);exact qf
theorem qbg{fa:Addr}{dV:Value}{fd:FuncData}(F:Fun2 K "is_name" "is_name" yf dV fa fd)(n_all:mg "all" = none)(n_len:mg "len" = none)(g_LONGEST_NAME:∃t,mg "LONGEST_NAME" = some (.int 8 t))(gs_SMALL_LETTERS:∃t,mg "SMALL_LETTERS" = some (.str "abcdefghijklmnopqrstuvwxyz" t)): FnOk P w K mg base CX0 1 fa fd ["word"] (spD K 1 yg):=
 F.okn (k:=0) (n:=1) (ar:=1) (k1:=1) (u:=q0q) qbf rfl rfl rfl fun cdv A outer s H E hr=>(by first|(with_reducible exact q50 n_all n_len g_LONGEST_NAME gs_SMALL_LETTERS hr)|exact q50 n_all n_len g_LONGEST_NAME gs_SMALL_LETTERS hr)
abbrev xx:Stmt:=top 19
noncomputable def q0z:List Str:=["words"]
theorem q8j:(q0z).Nodup:=by decide +kernel
theorem q8k:FnScope q0z ["words"] (qe xx):=⟨rfl,rfl,rfl,q8j,rfl,by decide +kernel,by decide +kernel⟩
theorem q5s:(["word"]:List Str).Nodup:=by decide +kernel
noncomputable def kf:FS:=(zj (q0u (qh q5e (qa (eL (zf (jr (eV 0)) [none] (bN 0) z7 (qh (qo 1 [] yg) (qa (eV 0) qg)))) qg)) (eOp oEq (q37 (eV 0)) (qh vn (qa (eV 0) qg)))))
noncomputable def vx:List D->Option D:=zb 1 kf
theorem q2r{fa:Addr}{cdv:Value}{A:Around}{outer:List Env}{s:Shared}{H:Hp}{E:XK}{a_is_name:Addr}{fd_is_name:FuncData}(c_3:Cal P w K mg base "is_name" 1 ["word"] 1 yg a_is_name fd_is_name)(b_3:Binds K fd_is_name ["word"] [])(n_all:mg "all" = none)(n_len:mg "len" = none)(n_set:mg "set" = none)(hr:Room 1 (A.deeper (envOfC "are_names" (qe xx) s.heap.objs.size fa cdv))):
  PSs (j3 CX0 P w K mg base q0z "are_names" (qe xx) fa cdv A outer s H E).nox (z0 xx) (tDS K kf):=by
 unfold kf;refine(qq ?_);refine(z5 ?_);refine(q4j ?_ (q4i ?_));refine(zl (q7n rfl) rfl n_all DL.boot_all ?_);walk_at "A";refine(jq ?_);refine(zx (N':=["word"]) (cap:=[none]) rfl (zd rfl rfl) (zq rfl) ?_ (fun _ _ _ _ _=>(qx q5s rfl (Or.inl rfl) (.inr rfl))) (fun _ _ _ _ _=>j4) (fun _ _ _ _ _=>?_));refine(jv ?_);exact(q0 (pv 0));refine(qz c_3 b_3 hr (by decide) rfl ?_);walk_at "A";exact(q0 (pv 0));exact qf;exact qf;refine(q15 (kb hr.units) ?_ ?_);refine(qcv rfl rfl n_len rfl n_set ?_);exact(q0 (pv 0));refine(zl (yi) rfl n_len DL.zr ?_);walk_at "A";exact(q0 (pv 0));exact qf
theorem q8l{fa:Addr}{dV:Value}{fd:FuncData}(F:Fun2 K "are_names" "are_names" xx dV fa fd){a_is_name:Addr}{fd_is_name:FuncData}(c_3:Cal P w K mg base "is_name" 1 ["word"] 1 yg a_is_name fd_is_name)(b_3:Binds K fd_is_name ["word"] [])(n_all:mg "all" = none)(n_len:mg "len" = none)(n_set:mg "set" = none): FnOk P w K mg base CX0 2 fa fd ["words"] (spD K 1 vx):=
 F.okn (k:=1) (n:=1) (ar:=1) (k1:=2) (u:=kf) q8k rfl rfl rfl fun cdv A outer s H E hr=>(by first|(with_reducible exact q2r c_3 b_3 n_all n_len n_set hr)|exact q2r c_3 b_3 n_all n_len n_set hr)
abbrev xy:Stmt:=top 16
noncomputable def q10:List Str:=["line","words","names"]
theorem q0g:(q10).Nodup:=by decide +kernel
theorem q8m:FnScope q10 ["line"] (qe xy):=⟨rfl,rfl,rfl,q0g,rfl,by decide +kernel,by decide +kernel⟩
noncomputable def kg:FS:=(qt (zp 1 (eL (q2a (eV 0) (eC (.str " "))))) (qt (zp 2 (eSl (eV 1) (oAt (eC (.int 1))) oNo)) (qt (sIf (bOr (w6 (bT (qh (qo 1 [] ky) (qa (eOp oIx (eV 1) (eC (.int 0))) qg)))) (w6 (bT (qh (qo 1 [] vx) (qa (eV 2) qg))))) q27 x8) (zj (x5 (qa (qh q34 (qa (w9 (eOp oIx (eV 1) (eC (.int 0))) oNo (oAt (eUn q7s (eC (.int 1))))) qg)) (qa (eV 2) qg)))))))
noncomputable def jk:List D->Option D:=zb 3 kg
theorem q2s{fa:Addr}{cdv:Value}{A:Around}{outer:List Env}{s:Shared}{H:Hp}{E:XK}{a_is_head:Addr}{fd_is_head:FuncData}(c_1:Cal P w K mg base "is_head" 2 ["word"] 1 ky a_is_head fd_is_head)(b_1:Binds K fd_is_head ["word"] []){a_are_names:Addr}{fd_are_names:FuncData}(c_0:Cal P w K mg base "are_names" 2 ["words"] 1 vx a_are_names fd_are_names)(b_0:Binds K fd_are_names ["words"] [])(n_int:mg "int" = none)(hr:Room 2 (A.deeper (envOfC "line_read" (qe xy) s.heap.objs.size fa cdv))):
  PSs (j3 CX0 P w K mg base q10 "line_read" (qe xy) fa cdv A outer s H E).nox (z0 xy) (tDS K kg):=by
 unfold kg;refine(qk ?_ ?_);refine(z9 (i:=1) ?_ ?_ ?_ ?_ ?_ ?_);exact q0g;exact rfl;exact(Or.inl rfl);refine(jq ?_);refine(q80 ?_ jo);exact(q0 (pv 0));exact rfl;walk_at "L";refine(qk ?_ ?_);refine(z9 (i:=2) ?_ ?_ ?_ ?_ ?_ ?_);exact q0g;exact rfl;exact(Or.inl rfl);refine(q7p ?_ (xj qd) vz);exact(q0 (pv 1));exact rfl;walk_at "L";refine(qk ?_ ?_);refine(ju ?_ (qq q1l) ja);refine(PW.pt (qfg ?_ (qcd ?_)));refine(kn ?_);refine(q09 ?_);refine(qz c_1 b_1 hr (by decide) rfl ?_);walk_at "A";refine(xi ?_ qd);exact(q0 (pv 1));exact qf;refine(kn ?_);refine(q09 ?_);refine(qz c_0 b_0 hr (by decide) rfl ?_);walk_at "A";exact(q0 (pv 2));exact qf;refine(qq ?_);refine(z5 ?_);refine(xp ?_);walk_at "A";refine(zy (q9x) rfl n_int DL.boot_int ?_);walk_at "A";refine(y8 ?_ vz (xj ?_));refine(xi ?_ qd);exact(q0 (pv 1));exact(qcn qd);exact qf;walk_at "A";exact(q0 (pv 2));exact qf
theorem q8n{fa:Addr}{dV:Value}{fd:FuncData}(F:Fun2 K "line_read" "line_read" xy dV fa fd){a_is_head:Addr}{fd_is_head:FuncData}(c_1:Cal P w K mg base "is_head" 2 ["word"] 1 ky a_is_head fd_is_head)(b_1:Binds K fd_is_head ["word"] []){a_are_names:Addr}{fd_are_names:FuncData}(c_0:Cal P w K mg base "are_names" 2 ["words"] 1 vx a_are_names fd_are_names)(b_0:Binds K fd_are_names ["words"] [])(n_int:mg "int" = none): FnOk P w K mg base CX0 3 fa fd ["line"] (spD K 1 jk):=
 F.okn (k:=2) (n:=3) (ar:=1) (k1:=3) (u:=kg) q8m rfl rfl rfl fun cdv A outer s H E hr=>(by first|(with_reducible exact q2s c_1 b_1 c_0 b_0 n_int hr)|exact q2s c_1 b_1 c_0 b_0 n_int hr)
abbrev vi:Stmt:=top 15
noncomputable def q1r:List Str:=["text"]
theorem q99:(q1r).Nodup:=by decide +kernel
theorem q9a:FnScope q1r ["text"] (qe vi):=⟨rfl,rfl,rfl,q99,rfl,by decide +kernel,by decide +kernel⟩
theorem q6t:(["line"]:List Str).Nodup:=by decide +kernel
noncomputable def wk:FS:=(qt (sIf (w6 (bT (q5d .str (eV 0)))) q27 x8) (qt (sIf (vm oEq (eV 0) (eC (.str ""))) (zj (eL (q0a qg))) x8) (zj (eL (zf (jr (eL (q2a (eV 0) (eC (.str "\n"))))) [none] (bN 0) z7 (qh (qo 1 [] jk) (qa (eV 0) qg)))))))
noncomputable def yo:List D->Option D:=zb 1 wk
theorem q3j{fa:Addr}{cdv:Value}{A:Around}{outer:List Env}{s:Shared}{H:Hp}{E:XK}{a_line_read:Addr}{fd_line_read:FuncData}(c_13:Cal P w K mg base "line_read" 3 ["line"] 1 jk a_line_read fd_line_read)(b_13:Binds K fd_line_read ["line"] [])(n_isinstance:mg "isinstance" = none)(n_str:mg "str" = none)(hr:Room 3 (A.deeper (envOfC "lines_of" (qe vi) s.heap.objs.size fa cdv))):
  PSs (j3 CX0 P w K mg base q1r "lines_of" (qe vi) fa cdv A outer s H E).nox (z0 vi) (tDS K wk):=by
 unfold wk;refine(qk ?_ ?_);refine(ju ?_ (qq q1l) ja);refine(kn ?_);refine(q09 ?_);refine(qck .str rfl n_isinstance rfl n_str DL.boot_str ?_);exact(q0 (pv 0));refine(qk ?_ ?_);refine(ju ?_ (qq ?_) ja);refine(xn (kb hr.units) ?_ jo);exact(q0 (pv 0));refine(z5 ?_);refine(jq ?_);exact(q0b qf);refine(qq ?_);refine(z5 ?_);refine(jq ?_);refine(zx (N':=["line"]) (cap:=[none]) rfl (zd rfl rfl) (zq rfl) ?_ (fun _ _ _ _ _=>(qx q6t rfl (Or.inl rfl) (.inr rfl))) (fun _ _ _ _ _=>j4) (fun _ _ _ _ _=>?_));refine(jv ?_);refine(jq ?_);refine(q80 ?_ jo);exact(q0 (pv 0));refine(qz c_13 b_13 hr (by decide) rfl ?_);walk_at "A";exact(q0 (pv 0));exact qf
theorem q9b{fa:Addr}{dV:Value}{fd:FuncData}(F:Fun2 K "lines_of" "lines_of" vi dV fa fd){a_line_read:Addr}{fd_line_read:FuncData}(c_13:Cal P w K mg base "line_read" 3 ["line"] 1 jk a_line_read fd_line_read)(b_13:Binds K fd_line_read ["line"] [])(n_isinstance:mg "isinstance" = none)(n_str:mg "str" = none): FnOk P w K mg base CX0 4 fa fd ["text"] (spD K 1 yo):=
 F.okn (k:=3) (n:=1) (ar:=1) (k1:=4) (u:=wk) q9a rfl rfl rfl fun cdv A outer s H E hr=>(by first|(with_reducible exact q3j c_13 b_13 n_isinstance n_str hr)|exact q3j c_13 b_13 n_isinstance n_str hr)
abbrev j7:Stmt:=top 21
noncomputable def y3:List Str:=["lines","named","many","names","name"]
theorem jg:(y3).Nodup:=by decide +kernel
theorem q3d:FnScope y3 ["lines"] (qe j7):=⟨rfl,rfl,rfl,jg,rfl,by decide +kernel,by decide +kernel⟩
noncomputable def xm:FS:=(qt (q86 1 2 3 4 (jr (eV 0))) (zj (eV 1)))
noncomputable def js:List D->Option D:=zb 5 xm
theorem wb{fa:Addr}{cdv:Value}{A:Around}{outer:List Env}{s:Shared}{H:Hp}{E:XK}(n_len:mg "len" = none)(hr:Room 0 (A.deeper (envOfC "places_by_name" (qe j7) s.heap.objs.size fa cdv))):
  PSs (j3 CX0 P w K mg base y3 "places_by_name" (qe j7) fa cdv A outer s H E).nox (z0 j7) (tDS K xm):=by
 unfold xm;refine(qja (by decide) (by decide) (by decide) (by decide) (by decide) (by decide) g09 rfl rfl n_len (q76 (i:=1) jg rfl (Or.inl rfl) qj8) ?_ (q2z jg rfl (Or.inl rfl)) (q2z jg rfl (Or.inl rfl)) (jv (q0 (pv 3))) (q2z jg rfl (Or.inl rfl)) (pv 1) (pv 4) (pv 1) ?_);refine(jv ?_);exact(q0 (pv 0));refine(qq ?_);refine(z5 ?_);exact(q0 (pv 1))
theorem q3e{fa:Addr}{dV:Value}{fd:FuncData}(F:Fun2 K "places_by_name" "places_by_name" j7 dV fa fd)(n_len:mg "len" = none): FnOk P w K mg base CX0 1 fa fd ["lines"] (spD K 1 js):=
 F.okn (k:=0) (n:=5) (ar:=1) (k1:=1) (u:=xm) q3d rfl rfl rfl fun cdv A outer s H E hr=>(by first|(with_reducible exact wb n_len hr)|exact wb n_len hr)
abbrev q1b:Stmt:=top 11
noncomputable def q8o:List Str:=["text","lines","named","runs"]
theorem q39:(q8o).Nodup:=by decide +kernel
theorem qgt:FnScope q8o ["text"] (qe q1b):=⟨rfl,rfl,rfl,q39,rfl,by decide +kernel,by decide +kernel⟩
theorem q6f:(["many","names","named"]:List Str).Nodup:=by decide +kernel
theorem qd1:(["name","named"]:List Str).Nodup:=by decide +kernel
noncomputable def q51:FS:=(qt (zp 1 (qh (qo 1 [] yo) (qa (eV 0) qg))) (qt (zp 2 (qh (qo 1 [] js) (qa (eV 1) qg))) (qt (sIf (vm oGt (qh q36 (qa (eV 2) qg)) (eC (.int 12))) q27 x8) (qt (sIf (vm oGt (qh vn (qa (eV 1) qg)) (eC (.int 200))) q27 x8) (qt (q0c 3 (zf (jr (eV 1)) [none,none,some 2] (xh 2 (za (bN 0) (za (bN 1) xg))) z7 (x5 (qa (eV 0) (qa (qh jw (qa (eL (wg yx (qa (eL (zf (jr (eV 1)) [none,some 2] (bN 0) z7 (eOp ym (eV 1) (eV 0)))) qg))) qg)) qg))))) (w8 3 (zj (x5 (qa (qh q4t (qa (eV 2) qg)) (qa (x5 (qa (qh q36 (qa (eV 2) qg)) (qa (qh jw (qa (eV 3) qg)) qg))) qg))))))))))
noncomputable def q2t:List D->Option D:=zb 4 q51
theorem qa3{fa:Addr}{cdv:Value}{A:Around}{outer:List Env}{s:Shared}{H:Hp}{E:XK}{a_lines_of:Addr}{fd_lines_of:FuncData}(c_14:Cal P w K mg base "lines_of" 4 ["text"] 1 yo a_lines_of fd_lines_of)(b_14:Binds K fd_lines_of ["text"] []){a_places_by_name:Addr}{fd_places_by_name:FuncData}(c_16:Cal P w K mg base "places_by_name" 1 ["lines"] 1 js a_places_by_name fd_places_by_name)(b_16:Binds K fd_places_by_name ["lines"] [])(n_len:mg "len" = none)(n_tuple:mg "tuple" = none)(n_sorted:mg "sorted" = none)(g_MOST_WARES:∃t,mg "MOST_WARES" = some (.int 12 t))(g_MOST_RUNS:∃t,mg "MOST_RUNS" = some (.int 200 t))(hr:Room 4 (A.deeper (envOfC "read" (qe q1b) s.heap.objs.size fa cdv))):
  PSs (j3 CX0 P w K mg base q8o "read" (qe q1b) fa cdv A outer s H E).nox (z0 q1b) (tDS K q51):=by
 unfold q51;refine(qk ?_ ?_);refine(z9 (i:=1) ?_ ?_ ?_ ?_ ?_ ?_);exact q39;exact rfl;exact(Or.inl rfl);refine(qz c_14 b_14 hr (by decide) rfl ?_);walk_at "A";exact(q0 (pv 0));exact qf;exact rfl;walk_at "L";refine(qk ?_ ?_);refine(z9 (i:=2) ?_ ?_ ?_ ?_ ?_ ?_);exact q39;exact rfl;exact(Or.inr rfl);refine(qz c_16 b_16 hr (by decide) rfl ?_);walk_at "A";exact(q0 (pv 1));exact qf;exact rfl;walk_at "L";refine(qk ?_ ?_);refine(ju ?_ (qq q1l) ja);refine(xn q4h ?_ ?_);refine(zl (qa0) rfl n_len DL.zr ?_);walk_at "A";exact(q0 (pv 2));exact qf;exact(q18 rfl g_MOST_WARES);refine(qk ?_ ?_);refine(ju ?_ (qq q1l) ja);refine(xn q4h ?_ ?_);refine(zl (yi) rfl n_len DL.zr ?_);walk_at "A";exact(q0 (pv 1));exact qf;exact(q18 rfl g_MOST_RUNS);refine(qk ?_ ?_);refine(q9s (i:=3) rfl q39 rfl rfl (N':=["many","names","named"]) (cap:=[none,none,some 2]) (zd rfl rfl) (y6 (zi rfl (zi rfl vf))) ?_ (fun _ _ _ _ _=>(q0f rfl (jd (qx q6f rfl (Or.inl rfl) (.inr rfl)) (jd (qx q6f rfl (Or.inl rfl) (.inr rfl)) q0e)))) (fun _ _ _ _ _=>j4) (fun _ _ _ _ _=>?_));refine(jv ?_);exact(q0 (pv 1));refine(xp ?_);walk_at "A";exact(q0 (pv 0));walk_at "A";refine(zy (vy) rfl n_tuple DL.boot_tuple ?_);walk_at "A";refine(jq ?_);refine(qed (qco rfl) rfl n_sorted DL.boot_sorted ?_);walk_at "A";refine(jq ?_);refine(zx (N':=["name","named"]) (cap:=[none,some 2]) rfl (zd rfl rfl) (zq rfl) ?_ (fun _ _ _ _ _=>(qx qd1 rfl (Or.inl rfl) (.inr rfl))) (fun _ _ _ _ _=>j4) (fun _ _ _ _ _=>?_));refine(jv ?_);exact(q0 (pv 1));refine(qgn ?_ ?_);exact(q0 (pv 1));exact(q0 (pv 0));exact qf;exact qf;exact qf;refine(q16 3 (qq ?_));refine(z5 ?_);refine(xp ?_);walk_at "A";refine(zy (qgp rfl) rfl n_tuple DL.boot_tuple ?_);walk_at "A";exact(q0 (pv 2));exact qf;walk_at "A";refine(xp ?_);walk_at "A";refine(zl (qa0) rfl n_len DL.zr ?_);walk_at "A";exact(q0 (pv 2));exact qf;walk_at "A";refine(zy (vy) rfl n_tuple DL.boot_tuple ?_);walk_at "A";exact(q0 (pv 3));exact qf;exact qf;exact qf
theorem qgu{fa:Addr}{dV:Value}{fd:FuncData}(F:Fun2 K "read" "read" q1b dV fa fd){a_lines_of:Addr}{fd_lines_of:FuncData}(c_14:Cal P w K mg base "lines_of" 4 ["text"] 1 yo a_lines_of fd_lines_of)(b_14:Binds K fd_lines_of ["text"] []){a_places_by_name:Addr}{fd_places_by_name:FuncData}(c_16:Cal P w K mg base "places_by_name" 1 ["lines"] 1 js a_places_by_name fd_places_by_name)(b_16:Binds K fd_places_by_name ["lines"] [])(n_len:mg "len" = none)(n_tuple:mg "tuple" = none)(n_sorted:mg "sorted" = none)(g_MOST_WARES:∃t,mg "MOST_WARES" = some (.int 12 t))(g_MOST_RUNS:∃t,mg "MOST_RUNS" = some (.int 200 t)): FnOk P w K mg base CX0 5 fa fd ["text"] (spD K 1 q2t):=
 F.okn (k:=4) (n:=4) (ar:=1) (k1:=5) (u:=q51) qgt rfl rfl rfl fun cdv A outer s H E hr=>(by first|(with_reducible exact qa3 c_14 b_14 c_16 b_16 n_len n_tuple n_sorted g_MOST_WARES g_MOST_RUNS hr)|exact qa3 c_14 b_14 c_16 b_16 n_len n_tuple n_sorted g_MOST_WARES g_MOST_RUNS hr)
abbrev k6:Stmt:=top 13
noncomputable def q40:List Str:=["names","pairs"]
theorem qd2:(q40).Nodup:=by decide +kernel
theorem qd3:FnScope q40 ["names","pairs"] (qe k6):=⟨rfl,rfl,rfl,qd2,rfl,by decide +kernel,by decide +kernel⟩
theorem q3k:(["some","number","names"]:List Str).Nodup:=by decide +kernel
noncomputable def q1s:FS:=(zj (eOp vg (eC (.str "\n")) (eL (zf (jr (eV 1)) [none,none,some 0] (xh 2 (za (bN 0) (za (bN 1) xg))) z7 (qh (qo 3 [] jj) (qa (eV 2) (qa (eV 1) (qa (eV 0) qg))))))))
noncomputable def q0h:List D->Option D:=zb 2 q1s
theorem q6g{fa:Addr}{cdv:Value}{A:Around}{outer:List Env}{s:Shared}{H:Hp}{E:XK}{a_line_of:Addr}{fd_line_of:FuncData}(c_12:Cal P w K mg base "line_of" 1 ["names","number","some"] 3 jj a_line_of fd_line_of)(b_12:Binds K fd_line_of ["names","number","some"] [])(hr:Room 1 (A.deeper (envOfC "listed" (qe k6) s.heap.objs.size fa cdv))):
  PSs (j3 CX0 P w K mg base q40 "listed" (qe k6) fa cdv A outer s H E).nox (z0 k6) (tDS K q1s):=by
 unfold q1s;refine(qq ?_);refine(z5 ?_);refine(wy jo ?_);refine(jq ?_);refine(zx (N':=["some","number","names"]) (cap:=[none,none,some 0]) rfl (zd rfl rfl) (y6 (zi rfl (zi rfl vf))) ?_ (fun _ _ _ _ _=>(q0f rfl (jd (qx q3k rfl (Or.inl rfl) (.inr rfl)) (jd (qx q3k rfl (Or.inl rfl) (.inr rfl)) q0e)))) (fun _ _ _ _ _=>j4) (fun _ _ _ _ _=>?_));refine(jv ?_);exact(q0 (pv 1));refine(qz c_12 b_12 hr (by decide) rfl ?_);walk_at "A";exact(q0 (pv 2));walk_at "A";exact(q0 (pv 1));walk_at "A";exact(q0 (pv 0));exact qf
theorem qd4{fa:Addr}{dV:Value}{fd:FuncData}(F:Fun2 K "listed" "listed" k6 dV fa fd){a_line_of:Addr}{fd_line_of:FuncData}(c_12:Cal P w K mg base "line_of" 1 ["names","number","some"] 3 jj a_line_of fd_line_of)(b_12:Binds K fd_line_of ["names","number","some"] []): FnOk P w K mg base CX0 2 fa fd ["names","pairs"] (spD K 2 q0h):=
 F.okn (k:=1) (n:=2) (ar:=2) (k1:=2) (u:=q1s) qd3 rfl rfl rfl fun cdv A outer s H E hr=>(by first|(with_reducible exact q6g c_12 b_12 hr)|exact q6g c_12 b_12 hr)
abbrev vj:Stmt:=top 29
noncomputable def q1t:List Str:=["_law_number","_law_names_here","_law_some"]
theorem q9c:(q1t).Nodup:=by decide +kernel
theorem q9d:FnScope q1t ["_law_number","_law_names_here","_law_some"] (qe vj):=⟨rfl,rfl,rfl,q9c,rfl,by decide +kernel,by decide +kernel⟩
theorem q6u:(["_law_ware","_law_names_here"]:List Str).Nodup:=by decide +kernel
noncomputable def wm:FS:=(zj (eOp xk (eOp xk (qh q5m (qa (eV 0) qg)) (eC (.str ":"))) (eOp vg (eC (.str "")) (eL (zf (jr (eV 2)) [none,some 1] (bN 0) z7 (eOp xk (eC (.str " ")) (eOp oIx (eV 1) (eV 0))))))))
noncomputable def zw:List D->Option D:=zb 3 wm
theorem q3l{fa:Addr}{cdv:Value}{A:Around}{outer:List Env}{s:Shared}{H:Hp}{E:XK}(n_str:mg "str" = none)(hr:Room 0 (A.deeper (envOfC "_law_line" (qe vj) s.heap.objs.size fa cdv))):
  PSs (j3 CX0 P w K mg base q1t "_law_line" (qe vj) fa cdv A outer s H E).nox (z0 vj) (tDS K wm):=by
 unfold wm;refine(qq ?_);refine(z5 ?_);refine(qi yy ?_ ?_);refine(qi yy ?_ jo);refine(zy (qcx) rfl n_str DL.boot_str ?_);walk_at "A";exact(q0 (pv 0));exact qf;refine(wy jo ?_);refine(jq ?_);refine(zx (N':=["_law_ware","_law_names_here"]) (cap:=[none,some 1]) rfl (zd rfl rfl) (zq rfl) ?_ (fun _ _ _ _ _=>(qx q6u rfl (Or.inl rfl) (.inr rfl))) (fun _ _ _ _ _=>j4) (fun _ _ _ _ _=>?_));refine(jv ?_);exact(q0 (pv 2));refine(qi yy jo ?_);refine(xi ?_ ?_);exact(q0 (pv 1));exact(q0 (pv 0))
theorem q9e{fa:Addr}{dV:Value}{fd:FuncData}(F:Fun2 K "_law_line" "_law_line" vj dV fa fd)(n_str:mg "str" = none): FnOk P w K mg base CX0 1 fa fd ["_law_number","_law_names_here","_law_some"] (spD K 3 zw):=
 F.okn (k:=0) (n:=3) (ar:=3) (k1:=1) (u:=wm) q9d rfl rfl rfl fun cdv A outer s H E hr=>(by first|(with_reducible exact q3l n_str hr)|exact q3l n_str hr)
abbrev q3a:Stmt:=top 31
noncomputable def qbh:List Str:=["_law_script","_law_pile_here","_law_wares","_law_runs","_law_names_here","_law_pairs","_law_k","_law_many","_law_whole","_law_text"]
theorem va:(qbh).Nodup:=by decide +kernel
theorem qjb:FnScope qbh ["_law_script"] (qe q3a):=⟨rfl,rfl,rfl,va,rfl,by decide +kernel,by decide +kernel⟩
theorem q8p:(["_law_many","_law_basket","_law_names_here"]:List Str).Nodup:=by decide +kernel
theorem q8q:(["_law_some","_law_many","_law_names_here"]:List Str).Nodup:=by decide +kernel
theorem q8r:(["_law_many","_law_basket","_law_names_here"]:List Str).Nodup:=by decide +kernel
noncomputable def q1u:FS:=(qt (zp 7 (eOp oIx (eOp oIx (eV 3) (eV 6)) (eC (.int 0)))) (qt (sIf (vm oEq (eOp oMod (eV 6) (eC (.int 3))) (eC (.int 1))) (zp 7 (eOp oIx (eL (q0a (qa (eC (.int 0)) (qa (eOp zv (eV 7) (eC (.int 1000))) qg)))) (eOp oMod (eV 6) (eC (.int 2))))) x8) (q0d 5 (x5 (qa (eOp oIx (eOp oIx (eV 3) (eV 6)) (eC (.int 1))) (qa (eV 7) qg))))))
noncomputable def q71:FS:=(qt (zp 1 (qh (qo 2 [] jy) (qa (eV 0) (qa (eC (.int 12)) qg)))) (qt (q4k (eV 1) (xh 2 (za (bN 2) (za (bN 3) xg)))) (qt (zp 4 (qh jw (qa (qh (qo 3 [] vw) (qa (eV 0) (qa (eC (.str "abcdefghijklmnopqrstuvwxyz")) (qa (eV 2) qg)))) qg))) (qt (sIf (w6 (bT (qh (qo 2 [] y1) (qa (qh (qo 2 [] q00) (qa (eV 4) (qa (eV 1) qg))) (qa (eL (zf (jr (eV 3)) [none,none,some 4] (xh 2 (za (bN 0) (za (bN 1) xg))) z7 (qh (qo 3 [] zw) (qa (eV 0) (qa (eV 2) (qa (eV 1) qg)))))) qg))))) (zj (eC (.bl false))) x8) (qt (q0c 5 (q0a qg)) (qt (q3w (iR1 (qa (qh vn (qa (eV 3) qg)) qg)) (bN 6) q1u) (w8 5 (qt (sIf (w6 (bT (qh (qo 2 [] y1) (qa (qh (qo 2 [] q0h) (qa (eV 4) (qa (qh jw (qa (eV 5) qg)) qg))) (qa (eL (zf (jr (eV 5)) [none,none,some 4] (xh 2 (za (bN 0) (za (bN 1) xg))) z7 (qh (qo 3 [] zw) (qa (eV 1) (qa (eV 2) (qa (eV 0) qg)))))) qg))))) (zj (eC (.bl false))) x8) (qt (zp 8 (x5 (qa (eV 2) (qa (eOp zk (x5 (qa (x5 (qa (eC (.int 7)) (qa (q6z (eV 2)) qg))) qg)) (eV 3)) qg)))) (qt (zp 9 (qh (qo 2 [] q00) (qa (eV 4) (qa (eV 8) qg)))) (qt (sIf (w6 (bT (qh (qo 2 [] y1) (qa (eV 9) (qa (eL (zf (jr (eOp oIx (eV 8) (eC (.int 1)))) [none,none,some 4] (xh 2 (za (bN 0) (za (bN 1) xg))) z7 (qh (qo 3 [] zw) (qa (eV 0) (qa (eV 2) (qa (eV 1) qg)))))) qg))))) (zj (eC (.bl false))) x8) (zj (eOp oEq (qh (qo 1 [] q2t) (qa (eV 9) qg)) (x5 (qa (eV 4) (qa (eV 8) qg))))))))))))))))
noncomputable def qbi:List D->Option D:=zb 10 q71
theorem qd5{fa:Addr}{cdv:Value}{A:Around}{outer:List Env}{s:Shared}{H:Hp}{E:XK}{a__law_pile:Addr}{fd__law_pile:FuncData}(c_8:Cal P w K mg base "_law_pile" 3 ["_law_script","_law_most_wares"] 2 jy a__law_pile fd__law_pile)(b_8:Binds K fd__law_pile ["_law_script","_law_most_wares"] []){a_shown:Addr}{fd_shown:FuncData}(c_18:Cal P w K mg base "shown" 2 ["names","pile"] 2 q00 a_shown fd_shown)(b_18:Binds K fd_shown ["names","pile"] []){a__law_names:Addr}{fd__law_names:FuncData}(c_7:Cal P w K mg base "_law_names" 2 ["_law_script","_law_letters","_law_many"] 3 vw a__law_names fd__law_names)(b_7:Binds K fd__law_names ["_law_script","_law_letters","_law_many"] []){a__law_is:Addr}{fd__law_is:FuncData}(c_4:Cal P w K mg base "_law_is" 1 ["_law_found","_law_lines"] 2 y1 a__law_is fd__law_is)(b_4:Binds K fd__law_is ["_law_found","_law_lines"] []){a_read:Addr}{fd_read:FuncData}(c_17:Cal P w K mg base "read" 5 ["text"] 1 q2t a_read fd_read)(b_17:Binds K fd_read ["text"] []){a_listed:Addr}{fd_listed:FuncData}(c_15:Cal P w K mg base "listed" 2 ["names","pairs"] 2 q0h a_listed fd_listed)(b_15:Binds K fd_listed ["names","pairs"] []){a__law_line:Addr}{fd__law_line:FuncData}(c_5:Cal P w K mg base "_law_line" 1 ["_law_number","_law_names_here","_law_some"] 3 zw a__law_line fd__law_line)(b_5:Binds K fd__law_line ["_law_number","_law_names_here","_law_some"] [])(n_tuple:mg "tuple" = none)(n_range:mg "range" = none)(n_len:mg "len" = none)(hr:Room 5 (A.deeper (envOfC "law" (qe q3a) s.heap.objs.size fa cdv))):
  PSs (j3 CX0 P w K mg base qbh "law" (qe q3a) fa cdv A outer s H E).nox (z0 q3a) (tDS K q71):=by
 unfold q71 q1u;refine(qk ?_ ?_);refine(z9 (i:=1) ?_ ?_ ?_ ?_ ?_ ?_);exact va;exact rfl;exact(Or.inl rfl);refine(qz c_8 b_8 hr (by decide) rfl ?_);walk_at "A";exact(q0 (pv 0));walk_at "A";exact qd;exact qf;exact rfl;walk_at "L";refine(qk ?_ ?_);refine(qge ?_ (q0f rfl (jd (qx va rfl (Or.inl rfl) (.inl rfl)) (jd (qx va rfl (Or.inl rfl) (.inl rfl)) q0e))));exact(q0 (pv 1));refine(qk ?_ ?_);refine(z9 (i:=4) ?_ ?_ ?_ ?_ ?_ ?_);exact va;exact rfl;exact(Or.inr rfl);refine(zy (vy) rfl n_tuple DL.boot_tuple ?_);walk_at "A";refine(qz c_7 b_7 hr (by decide) rfl ?_);walk_at "A";exact(q0 (pv 0));walk_at "A";exact jo;walk_at "A";exact(q0 (pv 2));exact qf;exact qf;exact rfl;walk_at "L";refine(qk ?_ ?_);refine(ju ?_ (qq ?_) ja);refine(kn ?_);refine(q09 ?_);refine(qz c_4 b_4 hr (by decide) rfl ?_);walk_at "A";refine(qz c_18 b_18 hr (by decide) rfl ?_);walk_at "A";exact(q0 (pv 4));walk_at "A";exact(q0 (pv 1));exact qf;walk_at "A";refine(jq ?_);refine(zx (N':=["_law_many","_law_basket","_law_names_here"]) (cap:=[none,none,some 4]) rfl (zd rfl rfl) (y6 (zi rfl (zi rfl vf))) ?_ (fun _ _ _ _ _=>(q0f rfl (jd (qx q8p rfl (Or.inl rfl) (.inr rfl)) (jd (qx q8p rfl (Or.inl rfl) (.inr rfl)) q0e)))) (fun _ _ _ _ _=>j4) (fun _ _ _ _ _=>?_));refine(jv ?_);exact(q0 (pv 3));refine(qz c_5 b_5 hr (by decide) rfl ?_);walk_at "A";exact(q0 (pv 0));walk_at "A";exact(q0 (pv 2));walk_at "A";exact(q0 (pv 1));exact qf;exact qf;exact(z5 q4f);refine(qk ?_ ?_);exact(q7i (i:=5) va rfl (Or.inl rfl) (q0b qf));refine(qk ?_ ?_);refine(q7l g09 rfl ?_ (qx va rfl (Or.inl rfl) (.inl rfl)) (qk ?_ ?_));refine(y4 rfl n_range ?_);walk_at "A";refine(zl (yi) rfl n_len DL.zr ?_);walk_at "A";exact(q0 (pv 3));exact qf;exact qf;refine(z9 (i:=7) ?_ ?_ ?_ ?_ ?_ ?_);exact va;exact rfl;exact(Or.inl rfl);refine(xi ?_ qd);refine(xi ?_ ?_);exact(q0 (pv 3));exact(q0 (pv 6));exact rfl;walk_at "L";refine(qk ?_ ?_);refine(ju ?_ (qq ?_) ja);refine(xn (kb hr.units) ?_ qd);refine(qi zg ?_ qd);exact(q0 (pv 6));refine(z9 (i:=7) ?_ ?_ ?_ ?_ ?_ ?_);exact va;exact rfl;exact(Or.inl rfl);refine(xi ?_ ?_);refine(jq ?_);refine(q0b ?_);walk_at "A";exact qd;walk_at "A";refine(qi j5 ?_ qd);exact(q0 (pv 7));exact qf;refine(qi zg ?_ qd);exact(q0 (pv 6));exact rfl;walk_at "L";refine(qq ?_);refine(q7j (pv 5) ?_);refine(xp ?_);walk_at "A";refine(xi ?_ qd);refine(xi ?_ ?_);exact(q0 (pv 3));exact(q0 (pv 6));walk_at "A";exact(q0 (pv 7));exact qf;refine(q16 5 (qk ?_ ?_));refine(ju ?_ (qq ?_) ja);refine(kn ?_);refine(q09 ?_);refine(qz c_4 b_4 hr (by decide) rfl ?_);walk_at "A";refine(qz c_15 b_15 hr (by decide) rfl ?_);walk_at "A";exact(q0 (pv 4));walk_at "A";refine(zy (vy) rfl n_tuple DL.boot_tuple ?_);walk_at "A";exact(q0 (pv 5));exact qf;exact qf;walk_at "A";refine(jq ?_);refine(zx (N':=["_law_some","_law_many","_law_names_here"]) (cap:=[none,none,some 4]) rfl (zd rfl rfl) (y6 (zi rfl (zi rfl vf))) ?_ (fun _ _ _ _ _=>(q0f rfl (jd (qx q8q rfl (Or.inl rfl) (.inr rfl)) (jd (qx q8q rfl (Or.inl rfl) (.inr rfl)) q0e)))) (fun _ _ _ _ _=>j4) (fun _ _ _ _ _=>?_));refine(jv ?_);exact(q0 (pv 5));refine(qz c_5 b_5 hr (by decide) rfl ?_);walk_at "A";exact(q0 (pv 1));walk_at "A";exact(q0 (pv 2));walk_at "A";exact(q0 (pv 0));exact qf;exact qf;exact(z5 q4f);refine(qk ?_ ?_);refine(z9 (i:=8) ?_ ?_ ?_ ?_ ?_ ?_);exact va;exact rfl;exact(Or.inl rfl);refine(xp ?_);walk_at "A";exact(q0 (pv 2));walk_at "A";refine(qi zt ?_ ?_);refine(xp ?_);walk_at "A";refine(xp ?_);walk_at "A";exact qd;walk_at "A";refine(qcp rfl rfl n_tuple rfl n_range ?_);exact(q0 (pv 2));exact qf;exact qf;exact(q0 (pv 3));exact qf;exact rfl;walk_at "L";refine(qk ?_ ?_);refine(z9 (i:=9) ?_ ?_ ?_ ?_ ?_ ?_);exact va;exact rfl;exact(Or.inl rfl);refine(qz c_18 b_18 hr (by decide) rfl ?_);walk_at "A";exact(q0 (pv 4));walk_at "A";exact(q0 (pv 8));exact qf;exact rfl;walk_at "L";refine(qk ?_ ?_);refine(ju ?_ (qq ?_) ja);refine(kn ?_);refine(q09 ?_);refine(qz c_4 b_4 hr (by decide) rfl ?_);walk_at "A";exact(q0 (pv 9));walk_at "A";refine(jq ?_);refine(zx (N':=["_law_many","_law_basket","_law_names_here"]) (cap:=[none,none,some 4]) rfl (zd rfl rfl) (y6 (zi rfl (zi rfl vf))) ?_ (fun _ _ _ _ _=>(q0f rfl (jd (qx q8r rfl (Or.inl rfl) (.inr rfl)) (jd (qx q8r rfl (Or.inl rfl) (.inr rfl)) q0e)))) (fun _ _ _ _ _=>j4) (fun _ _ _ _ _=>?_));refine(jv ?_);refine(xi ?_ qd);exact(q0 (pv 8));refine(qz c_5 b_5 hr (by decide) rfl ?_);walk_at "A";exact(q0 (pv 0));walk_at "A";exact(q0 (pv 2));walk_at "A";exact(q0 (pv 1));exact qf;exact qf;exact(z5 q4f);refine(qq ?_);refine(z5 ?_);refine(q15 (kb hr.units) ?_ ?_);refine(qz c_17 b_17 hr (by decide) rfl ?_);walk_at "A";exact(q0 (pv 9));exact qf;refine(xp ?_);walk_at "A";exact(q0 (pv 4));walk_at "A";exact(q0 (pv 8));exact qf
theorem qjc{fa:Addr}{dV:Value}{fd:FuncData}(F:Fun2 K "law" "law" q3a dV fa fd){a__law_pile:Addr}{fd__law_pile:FuncData}(c_8:Cal P w K mg base "_law_pile" 3 ["_law_script","_law_most_wares"] 2 jy a__law_pile fd__law_pile)(b_8:Binds K fd__law_pile ["_law_script","_law_most_wares"] []){a_shown:Addr}{fd_shown:FuncData}(c_18:Cal P w K mg base "shown" 2 ["names","pile"] 2 q00 a_shown fd_shown)(b_18:Binds K fd_shown ["names","pile"] []){a__law_names:Addr}{fd__law_names:FuncData}(c_7:Cal P w K mg base "_law_names" 2 ["_law_script","_law_letters","_law_many"] 3 vw a__law_names fd__law_names)(b_7:Binds K fd__law_names ["_law_script","_law_letters","_law_many"] []){a__law_is:Addr}{fd__law_is:FuncData}(c_4:Cal P w K mg base "_law_is" 1 ["_law_found","_law_lines"] 2 y1 a__law_is fd__law_is)(b_4:Binds K fd__law_is ["_law_found","_law_lines"] []){a_read:Addr}{fd_read:FuncData}(c_17:Cal P w K mg base "read" 5 ["text"] 1 q2t a_read fd_read)(b_17:Binds K fd_read ["text"] []){a_listed:Addr}{fd_listed:FuncData}(c_15:Cal P w K mg base "listed" 2 ["names","pairs"] 2 q0h a_listed fd_listed)(b_15:Binds K fd_listed ["names","pairs"] []){a__law_line:Addr}{fd__law_line:FuncData}(c_5:Cal P w K mg base "_law_line" 1 ["_law_number","_law_names_here","_law_some"] 3 zw a__law_line fd__law_line)(b_5:Binds K fd__law_line ["_law_number","_law_names_here","_law_some"] [])(n_tuple:mg "tuple" = none)(n_range:mg "range" = none)(n_len:mg "len" = none): FnOk P w K mg base CX0 6 fa fd ["_law_script"] (spD K 1 qbi):=
 F.okn (k:=5) (n:=10) (ar:=1) (k1:=6) (u:=q71) qjb rfl rfl rfl fun cdv A outer s H E hr=>(by first|(with_reducible exact qd5 c_8 b_8 c_18 b_18 c_7 b_7 c_4 b_4 c_17 b_17 c_15 b_15 c_5 b_5 n_tuple n_range n_len hr)|exact qd5 c_8 b_8 c_18 b_18 c_7 b_7 c_4 b_4 c_17 b_17 c_15 b_15 c_5 b_5 n_tuple n_range n_len hr)
end
end My
namespace DL
open PySem L2
theorem q8s(a b:Int): decide (V.int a=V.int b)=decide (a=b):=g17.mpr ⟨fun h=>by injection h,fun h=>by rw [h]⟩
theorem k7(a b:Int): oEq (.int a) (.int b)=some (.bl (decide (a=b))):=by
 simp only [oEq,q7g,flD,q59,g6,pd,g1l,q8s]
theorem qa4(a b:Int): qik (.int a) (.int b)=some (.bl (!decide (a=b))):=by
 simp only [qik,flD,q59,g6,pd,q8s]
theorem qd6(a b:Bool): oEq (.bl a) (.bl b)=some (.bl (a==b)):=by
 cases a <;> cases b <;> rfl
theorem q0i(a b:Int)(h:0<b): oMod (.int a) (.int b)=some (.int (a%b)):=by simp [oMod,oI,h]
theorem q8t(a b:Int)(h:0<b)(h2:b<1073741824): oDiv (.int a) (.int b)=some (.int (a / b)):=by simp [oDiv,oI,h,h2]
theorem vb(a b:Int): zk (.int a) (.int b)=some (.int (a+b)):=rfl
theorem q41(a b:Int): oSub (.int a) (.int b)=some (.int (a-b)):=rfl
theorem qa5(a b:Int): oLt' (.int a) (.int b)=some (.bl (decide (a<b))):=rfl
theorem k8(a b:Int): oLe (.int a) (.int b)=some (.bl (decide (a<=b))):=rfl
theorem q3b(a b:Int): oGt (.int a) (.int b)=some (.bl (decide (b<a))):=rfl
theorem qa6(a b:Int): oGe (.int a) (.int b)=some (.bl (decide (b<=a))):=rfl
theorem qes(a b:Int): oMin [.int a,.int b]=some (.int (if b<a then b else a)):=rfl
theorem qd7(xs ys:List D)(h:xs.length+ys.length<=1000000): zk (.tup xs) (.tup ys)=some (.tup (xs++ys)):=by
 show(oAdd (.tup xs) (.tup ys)).or (q3x (.tup xs) (.tup ys))=_;simp only [oAdd,oI,Option.none_or,q3x,lim,gu h]
theorem qd8(xs ys:List D)(h:xs.length+ys.length<=1000000): zk (.lst xs) (.lst ys)=some (.lst (xs++ys)):=by
 show(oAdd (.lst xs) (.lst ys)).or (q3x (.lst xs) (.lst ys))=_;simp only [oAdd,oI,Option.none_or,q3x,lim,gu h]
theorem qet(a b:Int)(h:0<=b)(h2:b<=1000000)(h3:a.natAbs<2 ^ 64): oPow (.int a) (.int b)=some (.int (a ^ b.toNat)):=by simp [oPow,oI,h,h2,h3]
theorem q1v(bs:List Bool): q5e [.lst (bs.map .bl)]=some (.bl (bs.all id)):=by simp [q5e,o1L,q4o]
theorem qa7{α : Type}{xs:List α}{i:Int}(h0:0<=i): atI xs i=xs[i.toNat]? :=by
 unfold atI ixN;rw [gu h0]
 by_cases h:i<xs.length
 ·rw [gu h];rfl
 ·rw [mf h,List.getElem?_eq_none (by omega)];rfl
section
variable{b:FB}{body:FS}{d:D}{ds:List D}{ρ ρ1 ρ2:Rho}
theorem q0r(h1:b d ρ = some ρ1)(h2:body ρ1=some (.nx, ρ2)): runFor b body (d :: ds) ρ = runFor b body ds ρ2:=by simp only [runFor,h1,h2,g6]
end
theorem q52{b:FB}{c:FT}{f:FE}{ρ : Rho}(p:D->Bool)(g:D->D): ∀ {ds:List D},(∀d∈ds,∃ ρ1,b d ρ = some ρ1/\c ρ1=some (p d)/\(p d=true->f ρ1=some (g d)))->zo b c f ρ ds=some ((ds.filter p).map g)
 | [],_=>rfl
 | d :: ds,h=>by
  obtain⟨ρ1,e1,e2,e3⟩:=h d gi;have ih:=q52 p g fun e he=>h e (gr _ he);simp only [zo,e1,e2,g6];cases hp:p d with
  | true=>simp only [pd,e3 hp,g6,ih,m6,List.filter_cons,hp,gy]
  | false=>simp only [g0l,g0g,ih,List.filter_cons,hp]
theorem zc{b:FB}{f:FE}{ρ : Rho}(g:D->D){ds:List D}(h:∀d∈ds,∃ ρ1,b d ρ = some ρ1/\f ρ1=some (g d)): zo b z7 f ρ ds=some (ds.map g):=by
 have:=q52 (b:=b) (c:=z7) (f:=f) (ρ := ρ) (fun _=>true) g (ds:=ds) fun d hd=>let⟨ρ1,e1,e2⟩:=h d hd; ⟨ρ1,e1,rfl,fun _=>e2⟩
 rw [List.filter_eq_self.mpr (fun _ _=>rfl)] at this;exact this
theorem q11(lo:Int)(n:Nat): qp lo (n+1)=.int lo :: qp (lo+1) n:=by
 unfold qp;rw [g1h,gy,gj]
 congr 1
 ·simp
 ·apply mm
  intro a _;simp only [Function.comp,Nat.succ_eq_add_one,Int.natCast_add]
  congr 1
  omega
theorem wo(lo:Int)(n:Nat): (qp lo n).length=n:=by simp [qp]
theorem q01(fa:FA)(ρ : Rho)(j:Int)(h:fa ρ = some [.int j])(h1 : -(2 ^ 62)<=j)(h2:j<2 ^ 62): iR1 fa ρ = some (qp 0 j.toNat):=by
 simp only [iR1,h,g6,m9 h1,m9 h2,Bool.and_self,pd]
theorem qeu{α : Type}(xs:List D)(k:Nat): cutD xs (some (k:Int)) none=xs.drop k:=by
 unfold cutD;rw [HT.sIx_nat,HT.sIx_none]
 by_cases h:k<=xs.length
 ·rw [Nat.min_eq_left h,ny (by rw [nz];exact gm _)]
 ·rw [Nat.min_eq_right (by omega),g11,List.drop_eq_nil_of_le (by omega)];simp
section
variable{ρ ρ1 ρ':Rho}{f g:FE}{d x y z:D}{i n m ar:Nat}{fa fk:FA}{ds es:List D}{t t2:FT}{c:Bool}{u w:FS}{r:Option (Fl×Rho)}
theorem x_c:eC d ρ = some d:=rfl
theorem x_v(h : ρ[i]? = some (some (.fz d))): eV i ρ = some d:=by unfold eV;rw [h]
theorem qu{o:D->D->Option D}(h1:f ρ = some x)(h2:g ρ = some y)(h3:o x y=some z): eOp o f g ρ = some z:=by unfold eOp;rw [h1,g6,h2,g6,h3]
theorem qev{o:D->Option D}(h1:f ρ = some x)(h3:o x=some z): eUn o f ρ = some z:=by unfold eUn;rw [h1,g6,h3]
theorem qj:qg ρ = some []:=rfl
theorem qc(h1:f ρ = some d)(h2:fa ρ = some ds): qa f fa ρ = some (d :: ds):=by unfold qa;rw [h1,g6,h2,m6]
theorem qkg(h1:fa ρ = some ds)(h2:fk ρ = some es)(hn:ds.length=n)(hm:es.length=m): qeg n m fa fk ρ = some (ds++es):=by unfold qeg;rw [h1,g6,h2,g6,gu ⟨hn,hm⟩]
theorem x_call{o:List D->Option D}(h1:fa ρ = some ds)(h2:o ds=some d): qh o fa ρ = some d:=by unfold qh;rw [h1,g6,h2]
theorem z6{o:List D->Option D}{dds:List D}(h1:fa ρ = some ds)(hl:(ds++dds).length=ar)(h2:o (ds++dds)=some d): qh (qo ar dds o) fa ρ = some d:=by unfold qh qo;rw [h1,g6,gu hl,h2]
theorem qjd{o:List D->Option D}(h1:fa ρ = some ds)(hl:ds.length=ar)(h2:o ds=some d): qh (qau ar o) fa ρ = some d:=by unfold qh qau;rw [h1,g6,gu hl,h2]
theorem kh(h1:fa ρ = some ds)(hl:ds.length<=lim): x5 fa ρ = some (.tup ds):=by unfold x5;rw [h1,g6,gu hl]
theorem q72(h1:fa ρ = some ds)(hl:ds.length<=lim): q0a fa ρ = some ds:=by unfold q0a;rw [h1,g6,gu hl]
theorem x_l(h1:fa ρ = some ds): eL fa ρ = some (.lst ds):=by unfold eL;rw [h1,m6]
theorem qa8{o:List D->Option (List D)}(h1:fa ρ = some ds)(h2:o ds=some es): wg o fa ρ = some es:=by unfold wg;rw [h1,g6,h2]
theorem qkh(h1:f ρ = some (.bl c)): qe6 f ρ = some (.bl (!c)):=by unfold qe6;rw [h1,g6];rfl
theorem q1c(h1:f ρ = some (.bl c))(hc:c=true)(h2:g ρ = some d): q0u f g ρ = some d:=by subst hc;unfold q0u;rw [h1,g6];exact h2
theorem qgv(h1:f ρ = some (.bl c))(hc:c=false): q0u f g ρ = some (.bl false):=by subst hc;unfold q0u;rw [h1,g6];rfl
theorem qje(h1:f ρ = some (.bl c))(hc:c=true): eOr f g ρ = some (.bl true):=by subst hc;unfold eOr;rw [h1,g6];rfl
theorem qjf(h1:f ρ = some (.bl c))(hc:c=false)(h2:g ρ = some d): eOr f g ρ = some d:=by subst hc;unfold eOr;rw [h1,g6];exact h2
theorem qbj{T:Ty}(h1:f ρ = some d): q5d T f ρ = some (.bl (qy T d)):=by unfold q5d;rw [h1,m6]
theorem q2u:oNo ρ = some none:=rfl
theorem x_at{k:Int}(h1:f ρ = some (.int k)): oAt f ρ = some (some k):=by unfold oAt;rw [h1,g6]
theorem qjg{lo hi:FO}{a b:Option Int}(h1:f ρ = some x)(h2:lo ρ = some a)(h3:hi ρ = some b)(h4:oSl x a b=some y): eSl f lo hi ρ = some y:=by unfold eSl;rw [h1,g6,h2,g6,h3,g6,h4]
theorem jc{it:FA}{cap:List (Option Nat)}{b:FB}{q:FT}(h1:it ρ = some ds)(hl:ds.length<=lim)(h2:zo b q f (v3 cap ρ) ds=some es): zf it cap b q f ρ = some es:=by unfold zf;rw [h1,g6,gu hl,h2]
theorem xq(h1:f ρ = some d)(h2:q1h d=some ds): jr f ρ = some ds:=by unfold jr;rw [h1,g6,h2]
theorem qjh{xs ys:List D}(h1:fa ρ = some [x,y])(h2:q1h x=some xs)(h3:q1h y=some ys): qiz fa ρ = some (qiy xs ys):=by unfold qiz;rw [h1,g6];simp only [h2,h3,g6,m6]
theorem wq{o:D->D->Option D}(h1:f ρ = some x)(h2:g ρ = some y)(h3:o x y=some (.bl c)): vm o f g ρ = some c:=by unfold vm;rw [qu h1 h2 h3,g6];rfl
theorem q2v(h1:f ρ = some d)(h2:q7h d=some c): bT f ρ = some c:=by unfold bT;rw [h1,g6,h2]
theorem yp(h1:t ρ = some c): w6 t ρ = some (!c):=by unfold w6;rw [h1,m6]
theorem qew{e:Bool}(h1:t ρ = some c)(hc:c=true)(h2:t2 ρ = some e): q3t t t2 ρ = some e:=by subst hc;unfold q3t;rw [h1,g6];exact h2
theorem qex(h1:t ρ = some c)(hc:c=false): q3t t t2 ρ = some false:=by subst hc;unfold q3t;rw [h1,g6];rfl
theorem qgw(h1:t ρ = some c)(hc:c=true): bOr t t2 ρ = some true:=by subst hc;unfold bOr;rw [h1,g6];rfl
theorem q5t{e:Bool}(h1:t ρ = some c)(hc:c=false)(h2:t2 ρ = some e): bOr t t2 ρ = some e:=by subst hc;unfold bOr;rw [h1,g6];exact h2
theorem q0s(h1:u ρ = some (.nx, ρ1))(h2:w ρ1=r): qt u w ρ = r:=by unfold qt;rw [h1,g6];exact h2
theorem qd9(h1:t ρ = some c)(hc:c=true)(h2:u ρ = r): sIf t u w ρ = r:=by subst hc;unfold sIf;rw [h1,g6];exact h2
theorem x9(h1:t ρ = some c)(hc:c=false)(h2:w ρ = r): sIf t u w ρ = r:=by subst hc;unfold sIf;rw [h1,g6];exact h2
theorem q1w(h1:f ρ = some d): zj f ρ = some (.rt d, ρ):=by unfold zj;rw [h1,m6]
theorem jz:x8 ρ = some (.nx, ρ):=rfl
theorem ji(h1:f ρ = some d): zp i f ρ = some (.nx, ρ.set i (some (.fz d))):=by unfold zp;rw [h1,m6]
theorem q53(h1:fa ρ = some ds): q0c i fa ρ = some (.nx, ρ.set i (some (.ow ds))):=by unfold q0c;rw [h1,m6]
theorem q1x(h0 : ρ[i]? = some (some (.ow ds)))(h1:f ρ = some d)(hl:ds.length<lim): q0d i f ρ = some (.nx, ρ.set i (some (.ow (ds++[d])))):=by unfold q0d q3v;rw [h0];simp only [g6,h1,gu hl]
theorem qfm{it:FA}{b:FB}{body:FS}(h1:it ρ = some ds)(h2:runFor b body ds ρ = r): q3w it b body ρ = r:=by unfold q3w;rw [h1,g6];exact h2
theorem qki(h1:frz i ρ = ρ1)(h2:u ρ1=r): w8 i u ρ = r:=by unfold w8;rw [h1];exact h2
theorem qji{b:FB}(h1:f ρ = some d)(h2:b d ρ = some ρ1): q4k f b ρ = some (.nx, ρ1):=by unfold q4k;rw [h1,g6,h2,m6]
theorem q0j(h:u (ds.map (fun d=>some (.fz d))++List.replicate (n-ds.length) none)=some (.rt d, ρ')): zb n u ds=some d:=by unfold zb;rw [h]
end
theorem eV0(d:D)(r:Rho): eV 0 (some (.fz d) :: r)=some d:=rfl
theorem eVs(i:Nat)(x:Option B)(r:Rho): eV (i+1) (x :: r)=eV i r:=rfl
theorem qfn(ds:List D): vn [.tup ds]=some (.int ds.length):=rfl
theorem qfo(ds:List D): vn [.lst ds]=some (.int ds.length):=rfl
theorem ql9(i:Int): (match D.int i with | .int i=>some (some i)|_=>none:Option (Option Int))=some (some i):=rfl
theorem qla(ds:List D)(r:Rho): frz 0 (some (.ow ds) :: r)=some (.fz (.lst ds)) :: r:=rfl
theorem frzs(i:Nat)(x:Option B)(r:Rho): frz (i+1) (x :: r)=x :: frz i r:=by
 unfold frz;rw [ue];cases h:r[i]? with
 | none=>rfl
 | some y=>
  cases y with
  | none=>rfl
  | some z=>cases z <;> rfl
theorem wt(a b:Int)(h : -(2 ^ 64)<b/\b<2 ^ 64): zv (.int a) (.int b)=some (.int (a*b)):=by
 have h2:(decide (-(2 ^ 64)<b)&&decide (b<2 ^ 64))=true:=by rw [m9 h.1,m9 h.2];rfl
 show(if((decide (-(2 ^ 64)<a)&&decide (a<2 ^ 64)) || (decide (-(2 ^ 64)<b)&&decide (b<2 ^ 64)))=true then some (D.int (a*b)) else none).or _=_;rw [h2,Bool.or_true,gu rfl,g1l]
theorem q3m(a b:Int)(h : -(2 ^ 64)<a/\a<2 ^ 64): zv (.int a) (.int b)=some (.int (a*b)):=by
 have h2:(decide (-(2 ^ 64)<a)&&decide (a<2 ^ 64))=true:=by rw [m9 h.1,m9 h.2];rfl
 show(if((decide (-(2 ^ 64)<a)&&decide (a<2 ^ 64)) || (decide (-(2 ^ 64)<b)&&decide (b<2 ^ 64)))=true then some (D.int (a*b)) else none).or _=_;rw [h2,Bool.true_or,gu rfl,g1l]
theorem qey(ds:List D)(i:Int): oIx (.lst ds) (.int i)=atI ds i:=rfl
theorem qez(ds:List D)(i:Int): oIx (.tup ds) (.int i)=atI ds i:=rfl
theorem q5u{α : Type}(xs:List α)(n:Nat): atI xs (no_index (OfNat.ofNat n:Int))=xs[n]? :=by
 show atI xs (n:Int)=xs[n]?;rw [qa7 (show(0:Int)<=(n:Int) by omega)]
 rfl
theorem vc{α : Type}(xs:List α)(n:Nat): atI xs (n:Int)=xs[n]? :=by
 rw [qa7 (show(0:Int)<=(n:Int) by omega)]
 rfl
theorem qgx(ds:List D): qfj [.lst ds]=some ds:=rfl
theorem qgy(ds:List D): qfj [.tup ds]=some ds:=rfl
theorem q0k(ds:List D): jw [.lst ds]=some (.tup ds):=rfl
theorem qf0(ds:List D): jw [.tup ds]=some (.tup ds):=rfl
theorem qbk(ds:List D)(r:Rho): q3v 0 (some (.ow ds) :: r)=some ds:=rfl
theorem qbl(i:Nat)(x:Option B)(r:Rho): q3v (i+1) (x :: r)=q3v i r:=rfl
theorem qjj{n:Nat}{u:FS}{ds:List D}{d:D}(h:(u (ds.map (fun d=>some (.fz d))++List.replicate (n-ds.length) none)).map Prod.fst=some (.rt d)): zb n u ds=some d:=by
 cases e:u (ds.map (fun d=>some (.fz d))++List.replicate (n-ds.length) none) with
 | none=>rw [e] at h;cases h
 | some p=>
  obtain⟨fl, ρ'⟩:=p;rw [e] at h;have h':fl=.rt d:=by simpa using h
  subst h';exact q0j e
theorem qgz:qy .int .non=false/\(∀b:Bool,qy .int (.bl b)=true)/\(∀i:Int,qy .int (.int i)=true)/\(∀x:Str,qy .int (.str x)=false)/\(∀ds:List D,qy .int (.tup ds)=false)/\(∀ds:List D,qy .int (.lst ds)=false)/\(∀(ks:List Key) (vs:List D),qy .int (.dct ks vs)=false)/\(∀(ks:List (List Int)) (vs:List D),qy .int (.dtt ks vs)=false)/\qy .bool .non=false/\(∀b:Bool,qy .bool (.bl b)=true)/\(∀i:Int,qy .bool (.int i)=false)/\(∀x:Str,qy .bool (.str x)=false)/\(∀ds:List D,qy .bool (.tup ds)=false)/\(∀ds:List D,qy .bool (.lst ds)=false)/\(∀(ks:List Key) (vs:List D),qy .bool (.dct ks vs)=false)/\(∀(ks:List (List Int)) (vs:List D),qy .bool (.dtt ks vs)=false)/\qy .tuple .non=false/\(∀b:Bool,qy .tuple (.bl b)=false)/\(∀i:Int,qy .tuple (.int i)=false)/\(∀x:Str,qy .tuple (.str x)=false)/\(∀ds:List D,qy .tuple (.tup ds)=true)/\(∀ds:List D,qy .tuple (.lst ds)=false)/\(∀(ks:List Key) (vs:List D),qy .tuple (.dct ks vs)=false)/\(∀(ks:List (List Int)) (vs:List D),qy .tuple (.dtt ks vs)=false)/\qy .list .non=false/\(∀b:Bool,qy .list (.bl b)=false)/\(∀i:Int,qy .list (.int i)=false)/\(∀x:Str,qy .list (.str x)=false)/\(∀ds:List D,qy .list (.tup ds)=false)/\(∀ds:List D,qy .list (.lst ds)=true)/\(∀(ks:List Key) (vs:List D),qy .list (.dct ks vs)=false)/\(∀(ks:List (List Int)) (vs:List D),qy .list (.dtt ks vs)=false)/\qy .str .non=false/\(∀b:Bool,qy .str (.bl b)=false)/\(∀i:Int,qy .str (.int i)=false)/\(∀x:Str,qy .str (.str x)=true)/\(∀ds:List D,qy .str (.tup ds)=false)/\(∀ds:List D,qy .str (.lst ds)=false)/\(∀(ks:List Key) (vs:List D),qy .str (.dct ks vs)=false)/\(∀(ks:List (List Int)) (vs:List D),qy .str (.dtt ks vs)=false)/\qy .dict .non=false/\(∀b:Bool,qy .dict (.bl b)=false)/\(∀i:Int,qy .dict (.int i)=false)/\(∀x:Str,qy .dict (.str x)=false)/\(∀ds:List D,qy .dict (.tup ds)=false)/\(∀ds:List D,qy .dict (.lst ds)=false)/\(∀(ks:List Key) (vs:List D),qy .dict (.dct ks vs)=true)/\(∀(ks:List (List Int)) (vs:List D),qy .dict (.dtt ks vs)=true):=by
 refine⟨?_,?_,?_,?_,?_,?_,?_,?_,?_,?_,?_,?_,?_,?_,?_,?_,?_,?_,?_,?_,?_,?_,?_,?_,?_,?_,?_,?_,?_,?_,?_,?_,?_,?_,?_,?_,?_,?_,?_,?_,?_,?_,?_,?_,?_,?_,?_,?_⟩ <;> intros <;> rfl
theorem q5v{x:Int}{n:Nat}(hn:0<n): ∃k:Nat,k<n/\oMod (.int x) (.int (n:Int))=some (.int (k:Int)):=by
 have h1:=t6 x (show(n:Int)≠0 by omega);have h2:=pb x (show(0:Int)<(n:Int) by omega);refine⟨(x%n).toNat,by omega,?_⟩;rw [q0i _ _ (by omega),ng h1]
end DL
open PySem PyProof.Rows L2 DL
local macro_rules | `(tactic| simp! [$a,*])=> `(tactic| simp (config:={decide:=true,implicitDefEqProofs:=false}) only [zb,qt,sIf,zp,zj,qka,x8,q0c,ql6,ql7,qkb,q3w,w8,q4k,eOp,eC,eV0,eVs,qh,qa,qg,x5,eL,q0a,wg,eSl,oNo,oAt,ql9,q3t,vm,w6,bT,bOr,q0u,eOr,qe6,eIf,q5d,qgz,eUn,isB,q7h,q7s,qfn,qfo,qla,frzs,jr,q1h,qo,qau,qeg,bN,xh,za,xg,v3,qiq,gy,g03,gz,t7,g7,Nat.reduceAdd,Nat.reduceSub,Nat.reduceEqDiff,List.replicate,ux,u5,t4,List.set_cons_zero,List.set_cons_succ,List.set_nil,ug,ue,g6,Option.bind_none,m6,Option.map_none,uv,Option.join_none,q0i,q8t,vb,q41,wt,q3m,k7,qa4,qd6,qa5,k8,q3b,qa6,q0k,qf0,pd,g0g,decide_true,decide_false,g0l,Bool.not_true,Bool.not_false,and_true,true_and,and_self,ite_true,ite_false,Int.reduceSub,Int.reduceMod,Int.reduceAdd,Int.reduceDiv,Int.reducePow,Int.reduceMul,Int.reduceNeg,Int.reduceEq,Int.reduceLT,Int.reduceLE,Int.reduceToNat,qey,qez,q5u,qgx,qgy,qet,reduceCtorEq,List.isEmpty_nil,List.isEmpty_cons,List.isEmpty_iff, $a,*])
namespace My
open PySem PyProof.Rows L2 DL
local macro_rules | `(tactic| walk_at "xo")=> `(tactic| first|assumption|exact k7 _ _|exact qa4 _ _|exact qd6 _ _|exact q0i _ _ (by decide)|exact q8t _ _ (by decide) (by decide)|exact vb _ _|exact q41 _ _|exact qa5 _ _|exact k8 _ _|exact q3b _ _|exact qa6 _ _|exact qes _ _|rfl)
local macro_rules | `(tactic| walk_at "xb")=> `(tactic| first|assumption|rfl|exact m9 (by omega)|exact m8 (by omega)|(simp;done)|(simp;omega))
local macro_rules | `(tactic| walk_at "xe")=> `(tactic| first|assumption|exact x_c|exact x_v rfl|exact qj|exact q2u|(apply qu;(walk_at "xe");(walk_at "xe");(walk_at "xo"))|(apply qev;(walk_at "xe");(walk_at "xo"))|(apply qc;(walk_at "xe");(walk_at "xe"))|(apply kh;(walk_at "xe");(first|decide|(simp only [gz,t7];decide)))|(apply x_l;(walk_at "xe"))|(apply q72;(walk_at "xe");(first|decide|(simp only [gz,t7];decide)))|(apply qa8;(walk_at "xe");(walk_at "xo"))|(apply qbj;(walk_at "xe"))|(apply qkh;(walk_at "xe"))|(apply x_at;(walk_at "xe"))|(apply qjg;(walk_at "xe");(walk_at "xe");(walk_at "xe");(walk_at "xo"))|(apply z6;(walk_at "xe");exact rfl;(walk_at "xo"))|(apply qjd;(walk_at "xe");exact rfl;(walk_at "xo"))|(apply qkg;(walk_at "xe");(walk_at "xe");exact rfl;exact rfl)|(apply x_call;(walk_at "xe");(walk_at "xo"))|(apply xq;(walk_at "xe");(walk_at "xo"))|(apply qjh;(walk_at "xe");(walk_at "xo");(walk_at "xo"))|(apply q1c;(walk_at "xe");(walk_at "xb");(walk_at "xe"))|(apply qgv;(walk_at "xe");(walk_at "xb"))|(apply qje;(walk_at "xe");(walk_at "xb"))|(apply qjf;(walk_at "xe");(walk_at "xb");(walk_at "xe"))|(apply wq;(walk_at "xe");(walk_at "xe");(walk_at "xo"))|(apply q2v;(walk_at "xe");(walk_at "xo"))|(apply yp;(walk_at "xe"))|(apply qew;(walk_at "xe");(walk_at "xb");(walk_at "xe"))|(apply qex;(walk_at "xe");(walk_at "xb"))|(apply qgw;(walk_at "xe");(walk_at "xb"))|(apply q5t;(walk_at "xe");(walk_at "xb");(walk_at "xe")))
local macro_rules | `(tactic| walk_at "xs")=> `(tactic| first|(apply ji;(walk_at "xe"))|exact jz|(apply q1w;(walk_at "xe"))|(apply q53;(walk_at "xe"))|(apply q1x;exact rfl;(walk_at "xe");(walk_at "xo")))
abbrev TI(ns:List Int): D:=.tup (ns.map .int)
def zh:Nat->Int->Int->List Int
 | 0,_,_=>[]
 | n+1,m,k=>if m%2=1 then k :: zh n (m / 2) (k+1) else zh n (m / 2) (k+1)
theorem yq:∀(n:Nat) (m k x:Int),x∈zh n m k->k<=x/\x<k+n
 | 0,_,_,_,h=>by cases h
 | n+1,m,k,x,h=>by
  unfold zh at h
  split at h
  ·rcases me.mp h with rfl|h
   ·omega
   ·have:=yq n _ _ _ h;omega
  ·have:=yq n _ _ _ h;omega
theorem wa:∀(n:Nat) (m k:Int),(zh n m k).Pairwise (· < ·)
 | 0,_,_=>.nil
 | n+1,m,k=>by
  unfold zh
  split
  ·refine .cons (fun x hx=>?_) (wa n _ _)
   have:=yq n _ _ _ hx;omega
  ·exact wa n _ _
theorem lb1{m k:Int}{acc:List D}(hm:m%2=1)(hl:acc.length<lim): v9 [some (.fz (.int m)),some (.ow acc),some (.fz (.int k))]=some (.nx,[some (.fz (.int (m / 2))),some (.ow (acc++[.int k])),some (.fz (.int k))]):=by
 refine q0s (qd9 (by(walk_at "xe")) (m9 hm) (q1x rfl (by(walk_at "xe")) hl)) ?_
 (walk_at "xs")
theorem lb0{m k:Int}{acc:List D}(hm:¬m%2=1): v9 [some (.fz (.int m)),some (.ow acc),some (.fz (.int k))]=some (.nx,[some (.fz (.int (m / 2))),some (.ow acc),some (.fz (.int k))]):=by
 refine q0s (x9 (by(walk_at "xe")) (m8 hm) jz) ?_
 (walk_at "xs")
theorem q0l:∀(n:Nat) (m k:Int) (acc:List D) (b:Option B),acc.length+n<=100->∃b' m',
  runFor (bN 2) v9 (qp k n) [some (.fz (.int m)),some (.ow acc),b]=some (.nx,[some (.fz (.int m')),some (.ow (acc++(zh n m k).map .int)),b'])
 | 0,m,k,acc,b,_=>⟨b,m,by simp [qp,runFor,zh]⟩
 | n+1,m,k,acc,b,h=>by
  rw [q11]
  by_cases hm:m%2=1
  ·obtain⟨b',m',ih⟩:=q0l n (m / 2) (k+1) (acc++[.int k]) (some (.fz (.int k))) (by simp;omega)
   refine⟨b',m',?_⟩;rw [q0r (b:=bN 2) rfl (lb1 hm (by show _<1000000;omega)),ih,zh,gu hm];simp
  ·obtain⟨b',m',ih⟩:=q0l n (m / 2) (k+1) acc (some (.fz (.int k))) (by omega)
   refine⟨b',m',?_⟩;rw [q0r (b:=bN 2) rfl (lb0 hm),ih,zh,mf hm]
theorem qbm(m:Int): kr [.int m]=some (TI (zh 12 m 0)):=by
 obtain⟨b',m',h⟩:=q0l 12 m 0 [] none (by simp);refine q0j (q0s (q53 (q72 qj (by decide))) (q0s (qfm (ds:=qp 0 12) rfl h) (qki rfl (q1w ?_))));exact x_call (qc (x_v rfl) qj) rfl
theorem q8u(w:Nat)(h:w<=12): vv [.int (w:Int)]=some (.int (2 ^ w)):=by
 have:w=0\/w=1\/w=2\/w=3\/w=4\/w=5\/w=6\/w=7\/w=8\/w=9\/w=10\/w=11\/w=12:=by omega
 rcases this with rfl|rfl|rfl|rfl|rfl|rfl|rfl|rfl|rfl|rfl|rfl|rfl|rfl <;> rfl
theorem vd(ns:List Int)(k:Int)(h0:0<=k)(h1:k<=1000000): ∃m,qv [.lst (ns.map .int),.int k]=some (.int m)/\0<=m/\m<2147483629:=by
 have hkk:zv (.int k) (.int k)=some (.int (k*k)):=wt _ _ ⟨by omega,by omega⟩;have hx:∀x:Int,zv (.int (x%2147483647)) (.int (x%2147483647))=some (.int ((x%2147483647)*(x%2147483647))):=fun x=>
  wt _ _ ⟨by have:=t6 x (show(2147483647:Int)≠0 by decide);omega,by have:=pb x (show(0:Int)<2147483647 by decide);omega⟩
 have fin:∀x:Int,0<=x%2147483629/\x%2147483629<2147483629:=fun x=>⟨t6 x (by decide),pb x (by decide)⟩
 by_cases hn:0<ns.length
 ·obtain⟨j,hj,hm⟩:=q5v (x:=k) hn
  have hn':(0:Int)<(ns.length:Int):=by omega
  have hi:atI (ns.map D.int) (j:Int)=some (.int ns[j]):=by rw [vc,gv,m7 hj];rfl
  simp! [qv,xv,hkk,hx,hm,hn',hi];exact⟨_,rfl,fin _⟩
 ·have hn':¬(0:Int)<(ns.length:Int):=by omega
  simp! [qv,xv,hkk,hx,hn'];exact⟨_,rfl,fin _⟩
abbrev Run:=Int×List Int
abbrev runD(r:Run): D:=.tup [.int r.1,TI r.2]
abbrev q54(w:Nat)(rs:List Run): D:=.tup [.int (w:Int),.tup (rs.map runD)]
structure RunOk(w:Nat)(most:Int)(r:Run): Prop where
 m1:1<=r.1
 m2:r.1<=most
 rise:r.2.Pairwise (· < ·)
 mem:∀x∈r.2,0<=x/\x<(w:Int)
theorem q3n:∀(n:Nat) (m k:Int) (w:Nat),0<=m->m<2 ^ w->∀x∈zh n m k,x<k+w
 | 0,_,_,_,_,_,_,h=>by cases h
 | n+1,m,k,0,h0,h1,x,h=>by
  have:m=0:=by have:m<1:=h1;omega
  subst this;unfold zh at h;rw [mf (by decide)] at h;have z:∀n k,zh n 0 k=[]:=fun n=>by
   induction n with
   | zero=>intro k;rfl
   | succ n ih=>intro k;unfold zh;rw [mf (by decide)];exact ih _
  rw [show(0:Int) / 2=0 by decide,z] at h;cases h
 | n+1,m,k,w+1,h0,h1,x,h=>by
  have hp:(2:Int) ^ (w+1)=2 ^ w*2:=Int.pow_succ 2 w;have ih:=q3n n (m / 2) (k+1) w (by omega) (by omega) x;unfold zh at h
  split at h
  ·rcases me.mp h with rfl|h
   ·omega
   ·have:=ih h;omega
  ·have:=ih h;omega
def runOf(n:Int)(w:Nat)(most:Int): Run:=(1+n / 4096%most,zh 12 (n%2 ^ w) 0)
theorem q55(n:Int)(w:Nat)(most:Int)(hw:w<=12)(hm:0<most): jx [.int n,.int (w:Int),.int most]=some (runD (runOf n w most)):=by
 have hp:=q8u w hw;have hpos:(0:Int)<2 ^ w:=Int.pow_pos (by decide);have ls:=qbm (n%2 ^ w);simp! [jx,ku,hp,hm,hpos,ls]
 rfl
theorem q8v(n:Int)(w:Nat)(most:Int)(hm:0<most): RunOk w most (runOf n w most):=by
 have a:=t6 (n / 4096) (show most≠0 by omega);have b:=pb (n / 4096) hm;have hpos:(0:Int)<2 ^ w:=Int.pow_pos (by decide);have c:=t6 n (show(2:Int) ^ w≠0 by omega);have d:=pb n hpos;refine⟨by show 1<=1+_;omega,by show 1+_<=most;omega,wa _ _ _,fun x hx=>?_⟩;have e:=yq _ _ _ _ hx;have f:=q3n _ _ _ w c d x hx;omega
theorem q22(ns:List Int)(x1:Option B)(fst:Int)(w:Nat)(most:Int)(hw:w<=12)(hm:0<most): ∀(n:Nat) (k:Int) (acc:List Run) (b6 b7:Option B),0<=k->k+n<=1000->acc.length+n<=1000->(∀r∈acc,RunOk w most r) ->
  ∃(rs:List Run) (b6' b7':Option B),runFor (bN 6) je (qp k n) [some (.fz (.lst (ns.map .int))),x1,some (.fz (.int fst)),some (.fz (.int (w:Int))),some (.fz (.int most)),some (.ow (acc.map runD)),b6,b7] =
   some (.nx,[some (.fz (.lst (ns.map .int))),x1,some (.fz (.int fst)),some (.fz (.int (w:Int))),some (.fz (.int most)),some (.ow (rs.map runD)),b6',b7'])/\rs.length=acc.length+n/\∀r∈rs,RunOk w most r
 | 0,k,acc,b6,b7,_,_,_,ha=>⟨acc,b6,b7,by simp [qp,runFor],by simp,ha⟩
 | n + 1,k,acc,b6,b7,h0,h1,h2,ha=>by
  obtain⟨m1,e1,p1,q1⟩:=vd ns (3*k+1) (by omega) (by omega);obtain⟨m2,e2,p2,q2⟩:=vd ns (3*k+2) (by omega) (by omega);obtain⟨m3,e3,p3,q3⟩:=vd ns (3*k+3) (by omega) (by omega);have body:∃N b7',je [some (.fz (.lst (ns.map .int))),x1,some (.fz (.int fst)),some (.fz (.int (w:Int))),some (.fz (.int most)),some (.ow (acc.map runD)),some (.fz (.int k)),b7] =
    some (.nx,[some (.fz (.lst (ns.map .int))),x1,some (.fz (.int fst)),some (.fz (.int (w:Int))),some (.fz (.int most)),some (.ow ((acc++[runOf N w most]).map runD)),some (.fz (.int k)),b7']):=by
   have lr:=fun n=>q55 n w most hw hm;have happ:∀(d:D) (x6 x7:Option B),q0d 5 (eC d) [some (.fz (.lst (ns.map .int))),x1,some (.fz (.int fst)),some (.fz (.int (w:Int))),some (.fz (.int most)),some (.ow (acc.map runD)),x6,x7]=some (.nx,[some (.fz (.lst (ns.map .int))),x1,some (.fz (.int fst)),some (.fz (.int (w:Int))),some (.fz (.int most)),some (.ow (acc.map runD++[d])),x6,x7]):=fun d x6 x7=>
    q1x rfl rfl (by rw [g7];show _<1000000;omega)
   have hl:acc.length<lim:=by show _<1000000;omega
   by_cases c1:1<k
   ·by_cases c2:m3%3=0
    ·simp! [je,e1,e2,e3,c1,c2,lr,q0d,qbk,qbl,hl,nu]
     exact⟨_,_,rfl⟩
    ·simp! [je,e1,e2,e3,c1,c2,lr,q0d,qbk,qbl,hl,nu]
     exact⟨_,_,rfl⟩
   ·simp! [je,e1,e2,e3,c1,lr,q0d,qbk,qbl,hl,nu]
    exact⟨_,_,rfl⟩
  obtain⟨N,b7',eb⟩:=body;obtain⟨rs,c6,c7,er,el,ho⟩:=q22 ns x1 fst w most hw hm n (k+1) (acc++[runOf N w most]) (some (.fz (.int k))) b7' (by omega) (by omega) (by simp;omega) (fun r hr=>by
   rcases nh.mp hr with hr|hr
   ·exact ha r hr
   ·rw [nj.mp hr];exact q8v N w most hm)
  refine⟨rs,c6,c7,?_,by rw [el];simp;omega,ho⟩;rw [q11,q0r (b:=bN 6) rfl eb,er]
theorem q9f(ns:List Int)(hl:ns.length<=63)(W:Nat)(hW:W<=12): ∃(w:Nat) (rs:List Run),jy [.lst (ns.map .int),.int (W:Int)]=some (q54 w rs)/\w<=W/\rs.length<=62/\∀r∈rs,RunOk w 1000000000000 r:=by
 obtain⟨fst,hf⟩:∃fst:Int,(0<ns.length->atI (ns.map D.int) 0=some (.int fst))/\(¬ 0<ns.length->fst=0):=by
  cases ns with
  | nil=>exact⟨0,fun h=>absurd h (by simp),fun _=>rfl⟩
  | cons a r=>exact⟨a,fun _=>by rw [q5u];rfl,fun h=>absurd (by simp) h⟩
 obtain⟨w,hw,em⟩:=q5v (x:=fst) (n:=W+1) (by omega);rw [show((W+1:Nat):Int)=(W:Int)+1 by omega] at em;obtain⟨most,emost,hmost,hmost2⟩:∃most:Int,atI [D.int 3,D.int 40,D.int 1000000000000] (fst / 16%3)=some (.int most)/\0<most/\most<=1000000000000:=by
  have a:=t6 (fst / 16) (show(3:Int)≠0 by decide);have b:=pb (fst / 16) (show(0:Int)<3 by decide);have:fst / 16%3=0\/fst / 16%3=1\/fst / 16%3=2:=by omega
  rcases this with e|e|e <;> rw [e]
  ·exact⟨3,rfl,by decide,by decide⟩
  ·exact⟨40,rfl,by decide,by decide⟩
  ·exact⟨1000000000000,rfl,by decide,by decide⟩
 have widen:∀r,RunOk w most r->RunOk w 1000000000000 r:=fun r h=>⟨h.m1,by have:=h.m2;omega,h.rise,h.mem⟩
 have lr:=fun n=>q55 n w most (by omega) hmost;have sl:oSl (.lst (ns.map D.int)) (some 1) (some 63)=some (.lst ((ns.drop 1).map D.int)):=by
  show some (D.lst (DL.cutD (ns.map D.int) (some ((1:Nat):Int)) (some ((63:Nat):Int))))=_;unfold DL.cutD;rw [HT.sIx_nat,HT.sIx_nat,g7,Nat.min_eq_right hl]
  by_cases h:1<=ns.length
  ·rw [Nat.min_eq_left h,ny (by simp),List.map_drop]
  ·have:ns=[]:=by cases ns with
    | nil=>rfl
    | cons a r=>simp at h
   subst this;rfl
 have cmp:zo (bN 0) z7 (qh (qo 3 [] jx) (qa (eV 0) (qa (eV 1) (qa (eV 2) qg)))) [none,some (.fz (.int (w:Int))),some (.fz (.int most))] ((ns.drop 1).map D.int)=some (((ns.drop 1).map fun n=>runOf n w most).map runD):=by
  have:=zc (b:=bN 0) (f:=qh (qo 3 [] jx) (qa (eV 0) (qa (eV 1) (qa (eV 2) qg)))) (ρ :=[none,some (.fz (.int (w:Int))),some (.fz (.int most))]) (fun d=>match d with | .int n=>runD (runOf n w most)|_=>.non) (ds:=(ns.drop 1).map D.int) fun d hd=>by
   obtain⟨n,hn,rfl⟩:=gf.mp hd;refine⟨_,rfl,?_⟩;simp! [lr]
  rw [this,gj,gj];rfl
 have ll:(ns.drop 1).length<=lim:=by rw [nz];show _<=1000000;omega
 obtain⟨tn,htn,etn⟩:=q5v (x:=fst / 96) (n:=25) (by omega);have etn':fst / 96%25=(tn:Int):=by
  have:=q0i (fst / 96) 25 (by decide);rw [show((25:Nat):Int)=25 from rfl,this] at etn;injection etn with e;injection e
 have er:iR1 (fun _=>some [.int (tn:Int)]) []=some (qp 0 tn):=q01 _ _ (tn:Int) rfl (by omega) (by omega);have er2:∀ ρ : Rho,iR1 (qa (eOp oMod (eOp oDiv (eV 2) (eC (.int 96))) (eC (.int 25))) qg) (some (.fz (.lst (ns.map D.int))) :: some (.fz (.int (W:Int))) :: some (.fz (.int fst)) :: ρ)=some (qp 0 tn):=fun ρ =>
  q01 _ _ (tn:Int) (by simp! [etn']) (by omega) (by omega)
 obtain⟨rs,b6,b7,el,e2,e3⟩:=q22 ns (some (.fz (.int (W:Int)))) fst w most (by omega) hmost tn 0 [] none none (by omega) (by omega) (by simp;omega) (fun r hr=>by cases hr);have two:fst / 48%2=0\/¬fst / 48%2=0:=by omega
 have c1:((ns.drop 1).map fun n=>runOf n w most).length<=62:=by rw [g7,nz];omega
 have c2:∀r∈(ns.drop 1).map fun n=>runOf n w most,RunOk w 1000000000000 r:=fun r hr=>by
  obtain⟨n,_,rfl⟩:=gf.mp hr;exact widen _ (q8v n w most hmost)
 have d1:rs.length<=62:=by rw [e2];simp;omega
 rcases two with h2|h2
 ·refine⟨w,(ns.drop 1).map fun n=>runOf n w most,?_,by omega,c1,c2⟩
  by_cases hn:0<ns.length
  ·have hn':(0:Int)<(ns.length:Int):=by omega
   have hi:=hf.1 hn;rw [show(0:Int)=((0:Nat):Int) from rfl,vc] at hi;simp! [jy,xl,hn',hi,em,emost,h2,sl,zf,ll,cmp]
  ·have hn':¬(0:Int)<(ns.length:Int):=by omega
   have hz:=hf.2 hn;subst hz;have e3:most=3:=by
    rw [show(0:Int) / 16%3=0 by decide,q5u,ug] at emost;exact(D.int.inj (mi emost)).symm
   subst e3;simp! [jy,xl,hn',em,sl,zf,ll,cmp]
 ·refine⟨w,rs,?_,by omega,d1,fun r hr=>widen r (e3 r hr)⟩
  by_cases hn:0<ns.length
  ·have hn':(0:Int)<(ns.length:Int):=by omega
   have hi:=hf.1 hn;rw [show(0:Int)=((0:Nat):Int) from rfl,vc] at hi;simp only [g03] at el;simp! [jy,xl,hn',hi,em,emost,h2,er2,el]
  ·have hn':¬(0:Int)<(ns.length:Int):=by omega
   have hz:=hf.2 hn;subst hz;exact absurd rfl h2
end My
namespace Tx
open PySem Builtin Builtin.Str
abbrev txt(l:List Nat): Str:=⟨l.toArray⟩
theorem qda(x:Str): x=txt x.cps.toList:=by obtain⟨c⟩:=x;simp [txt]
theorem q1d{a b:List Nat}(h:txt a=txt b): a=b:=by
 have:=n3 (fun x:Str=>x.cps.toList) h
 simpa [txt] using this
theorem jl(a:List Nat): (txt a).cps.toList=a:=by simp [txt]
theorem jm(a:List Nat): (txt a).length=a.length:=by simp [txt,Str.length]
theorem k9(a b:List Nat): txt a++txt b=txt (a++b):=by show Str.mk (a.toArray++b.toArray)=_;simp [txt]
def jn(c:Nat): List (List Nat)->List Nat
 | []=>[]
 | [x]=>x
 | x :: y :: r=>x++c :: jn c (y :: r)
theorem ve(c:Nat)(x y:List Nat)(r:List (List Nat)): jn c (x :: y :: r)=x++c :: jn c (y :: r):=rfl
theorem q2w(c:Nat): ∀ls:List (List Nat),Str.join (txt [c]) (ls.map txt)=txt (jn c ls)
 | []=>rfl
 | [x]=>rfl
 | x :: y :: r=>by
  show txt x++txt [c]++Str.join (txt [c]) ((y :: r).map txt)=_;rw [q2w c (y :: r),k9,k9,ve,mz];rfl
theorem qf1(c:Nat)(ls:List (List Nat)): Txt.join (txt [c]) (ls.map txt)=txt (jn c ls):=by
 unfold Txt.join;rw [StrLaws.glued_eq_join,q2w]
theorem q6h:∀ls:List (List Nat),Str.join (txt []) (ls.map txt)=txt ls.flatten
 | []=>rfl
 | [x]=>by show txt x=_;simp
 | x :: y :: r=>by
  show txt x++txt []++Str.join (txt []) ((y :: r).map txt)=_;rw [q6h (y :: r),k9,k9,t4];rfl
theorem join_nil(ls:List (List Nat)): Txt.join (txt []) (ls.map txt)=txt ls.flatten:=by
 unfold Txt.join;rw [StrLaws.glued_eq_join,q6h]
theorem qdb{c:Nat}: ∀ {a b r s:List Nat},c∉a->c∉b->a++c :: r=b++c :: s->a=b/\r=s
 | [],[],r,s,_,_,h=>by simpa using h
 | [],y :: b,r,s,_,h2,h=>by
  simp only [u5,ux,g1f] at h;exact absurd (h.1 ▸ gi) h2
 | x :: a,[],r,s,h1,_,h=>by
  simp only [u5,ux,g1f] at h;exact absurd (h.1 ▸ gi) h1
 | x :: a,y :: b,r,s,h1,h2,h=>by
  simp only [ux,g1f] at h;obtain⟨e1,e2⟩:=qdb (fun z=>h1 (gr _ z)) (fun z=>h2 (gr _ z)) h.2;exact⟨by rw [h.1,e1],e2⟩
theorem qdc{c:Nat}: ∀ {xs ys:List (List Nat)},xs≠[]->ys≠[]->(∀l∈xs,c∉l)->(∀l∈ys,c∉l)->jn c xs=jn c ys->xs=ys
 | [],_,h,_,_,_,_=>absurd rfl h
 | _ :: _,[],_,h,_,_,_=>absurd rfl h
 | [x],[y],_,_,_,_,h=>by simpa [jn] using h
 | [x],y :: y2 :: r,_,_,h1,_,h=>by
  rw [ve] at h;have:c∈x:=by rw [show x=_ from h];simp
  exact absurd this (h1 x gi)
 | x :: x2 :: r,[y],_,_,_,h2,h=>by
  rw [ve] at h;have:c∈y:=by rw [show y=_ from h.symm];simp
  exact absurd this (h2 y gi)
 | x :: x2 :: r,y :: y2 :: s,_,_,h1,h2,h=>by
  rw [ve,ve] at h;obtain⟨e1,e2⟩:=qdb (h1 x gi) (h2 y gi) h;have:=qdc (by simp) (by simp) (fun l hl=>h1 l (gr _ hl)) (fun l hl=>h2 l (gr _ hl)) e2;rw [e1,this]
theorem qf2(x y:Str)(h:x.length=0->True): Txt.split x y≠[]:=by
 unfold Txt.split
 split
 ·simp
 ·split
  ·simp
  ·rw [StrLaws.partsBetween_eq]
   obtain⟨p,r,e⟩:=StrLaws.partsFrom_ne x y.length 0 (occurrences x y 0 x.length (x.length+1));rw [e];simp
theorem qh0(l:List Str): l=(l.map fun x=>x.cps.toList).map txt:=by
 rw [gj]
 conv=>lhs;rw [<- List.map_id l]
 exact mm fun x _=>qda x
theorem qf3{c:Nat}{ls:List (List Nat)}(h0:ls≠[])(hf:∀l∈ls,c∉l): Txt.split (txt (jn c ls)) (txt [c])=ls.map txt:=by
 have h1:=StrLaws.join_split (txt (jn c ls)) (txt [c]);have h2:=StrLaws.split_free (txt (jn c ls)) c;have h3:=qf2 (txt (jn c ls)) (txt [c]) fun _=>trivial;have e:=qh0 (Txt.split (txt (jn c ls)) (txt [c]));rw [e,q2w] at h1;have:=qdc (by intro z;rw [g0f] at z;exact h3 z) h0 (fun l hl=>by
  obtain⟨p,hp,rfl⟩:=gf.mp hl;exact h2 p hp) hf (q1d h1)
 rw [e,this]
theorem q6i(x y:Str): (partsBetween x (occurrences x y 0 x.length (x.length+1)) y.length).length<=x.length+2:=by
 unfold partsBetween;have h:=StrLaws.occ_length_le_len x y 0 x.length (x.length+1);simp only [g7,p6,gz,gh,gs,t7];omega
theorem split_len(x y:Str): (Txt.split x y).length<=x.length+2:=by
 unfold Txt.split
 split
 ·simp
 ·split
  ·simp
  ·exact q6i x y
theorem qdd{c:List Nat}{ls:List Str}{B:Nat}(hB:∀y∈ls,y.length<=B)(h:ls.length*B+ls.length*c.length<=16777216): JoinOk (txt c) ls=true:=by
 unfold JoinOk;have:=StrLaws.joinFits (sep:=txt c) (texts:=ls) (B:=B) hB (by rw [jm];exact h);rw [this];rfl
theorem qde(l:List Nat)(c:Nat): (!(occurrences (txt l) (txt [c]) 0 (txt l).length 1).isEmpty)=decide (c∈l):=by
 have:=StrLaws.found_one (txt l) c;rw [jl] at this;exact this
theorem qdf(c:Nat): ∀ls:List (List Nat),(jn c ls).length<=(ls.map List.length).sum+ls.length
 | []=>by simp [jn]
 | [x]=>by simp [jn]
 | x :: y :: r=>by
  have:=qdf c (y :: r);rw [ve,gh,gz,gy,List.sum_cons,gz];omega
end Tx
namespace Tx
open PySem PySem.W PySem.NumText
def dg(m:Nat): List Nat:=(Nat.toDigits 10 m).map Char.toNat
theorem qa9(m:Nat): Str.ofString (toString ((m:Nat):Int))=txt (dg m):=by
 rw [qda (Str.ofString (toString ((m:Nat):Int))),KIN.signs_num];rfl
theorem q1y{m c:Nat}(h:c∈dg m): 48<=c/\c<=57:=by
 obtain⟨ch,hch,e⟩:=gf.mp h;have r:=PyProof.Rows.digit_range (Nat.isDigit_of_mem_toDigits (by decide) (by decide) hch);rw [<- e];exact r
theorem qfp(m:Nat): dg m≠[]:=by
 unfold dg;intro e;have h:=toDigits_len_ge 10 m;rw [g0f.mp e] at h;exact absurd h (by decide)
theorem q1e{k m:Nat}(hk:1<=k)(h:m<10 ^ k): (dg m).length<=k:=by
 unfold dg;rw [g7];exact toDigits_len_pow (by decide) hk h
theorem qh1{m:Nat}(hl:(dg m).length<=4300): PySem.intText? (txt (dg m))=some (m:Int):=by
 have e:=intText_digits (x:=txt (dg m)) (fun c hc=>by rw [jl] at hc;exact q1y hc) (by rw [jl];exact qfp m) (by rw [jm];exact hl);rw [jl] at e;have v:=KIN.val_back m;unfold dg at e ⊢;rw [v] at e;exact e
theorem qlb:∀d:Nat,d<10->1<=d->(Nat.digitChar d).toNat≠48:=by decide
theorem qh2(m:Nat)(h:1<=m): ∃c r,dg m=c :: r/\c≠48:=by
 induction m using Nat.strongRecOn with
 | _ m ih=>
  by_cases h10:m<10
  ·unfold dg
   rw [Nat.toDigits_of_lt_base h10];exact⟨_,_,rfl,qlb m h10 h⟩
  ·have hm:m%10<10:=t8 m (by decide)
   have t:Nat.toDigits 10 (m / 10)++Nat.toDigits 10 (m%10)=Nat.toDigits 10 (10*(m / 10)+m%10):=Nat.toDigits_append_toDigits (by decide) (by omega) hm;rw [Nat.div_add_mod] at t;obtain⟨c,r,e,hc⟩:=ih (m / 10) (by omega) (by omega);unfold dg at e ⊢;rw [<- t,nu,e];exact⟨c,_,rfl,hc⟩
open Builtin Builtin.Str
theorem sE:("" : Str)=txt []:=rfl
theorem sSp:(" " : Str)=txt [32]:=rfl
theorem sNl:("\n" : Str)=txt [10]:=rfl
theorem sCo:(":" : Str)=txt [58]:=rfl
theorem s0:("0" : Str)=txt [48]:=rfl
def ltr:List Nat:=(List.range 26).map (· + 97)
def fig:List Nat:=(List.range 10).map (· + 48)
theorem qlc:("0123456789" : Str)=txt fig:=by rfl
theorem qjk:("abcdefghijklmnopqrstuvwxyz" : Str)=txt ltr:=by rfl
theorem qh3:∀i<26,occurrences (txt ltr) (txt [97+i]) 0 26 1=[i]:=by
 simp only [StrLaws.occ_eq]
 decide +kernel
end Tx
namespace DL
open PySem PyProof.Rows L2 Tx Builtin Builtin.Str
abbrev S(l:List Nat): D:=.str (txt l)
theorem kz:∀ls:List (List Nat),yk (ls.map S)=some (ls.map txt)
 | []=>rfl
 | l :: ls=>by rw [gy,yk,kz ls];rfl
theorem yh{a b:List Nat}(h:a.length+b.length<=1000000): xk (S a) (S b)=some (S (a++b)):=by
 unfold xk;simp only [jm];rw [gu h,k9]
theorem q6j{c:Nat}{ls:List (List Nat)}{B:Nat}(hB:∀l∈ls,l.length<=B)(h:ls.length*B+ls.length<=16777216): vg (S [c]) (.lst (ls.map S))=some (S (jn c ls)):=by
 show(yk (ls.map S)).bind _=_;rw [kz,g6];rw [gu (qdd (B:=B) (fun y hy=>by obtain⟨l,hl,rfl⟩:=gf.mp hy;rw [jm];exact hB l hl) (by rw [g7,gs,Nat.mul_one];exact h)),qf1]
theorem q6k{ls:List (List Nat)}{B:Nat}(hB:∀l∈ls,l.length<=B)(h:ls.length*B<=16777216): vg (S []) (.lst (ls.map S))=some (S ls.flatten):=by
 show(yk (ls.map S)).bind _=_;rw [kz,g6];rw [gu (qdd (B:=B) (fun y hy=>by obtain⟨l,hl,rfl⟩:=gf.mp hy;rw [jm];exact hB l hl) (by rw [g7,t7,Nat.mul_zero,Nat.add_zero];exact h)),Tx.join_nil]
theorem qf4(c:Nat)(l:List Nat): q2e (S [c]) (S l)=some (.bl (decide (c∈l))):=by
 unfold q2e;simp only [qde]
theorem q42{l:List Nat}{i c:Nat}(h:l[i]? = some c)(hl:l.length<=1000000): yl (S l) (.int (i:Int))=some (S [c]):=by
 unfold yl;simp only [jm,jl];rw [gu hl,vc,h];rfl
theorem q5a(a b:Str): decide (V.str a=V.str b)=decide (a=b):=g17.mpr ⟨fun h=>by injection h,fun h=>by rw [h]⟩
theorem q5w(a b:List Nat): oEq (S a) (S b)=some (.bl (decide (a=b))):=by
 have:oEq (S a) (S b)=some (.bl (decide (txt a=txt b))):=by
  simp [oEq,q7g,flD,q59,q5a]
 rw [this]
 congr 2
 exact g17.mpr ⟨fun h=>q1d h,fun h=>by rw [h]⟩
theorem q43(l:List Nat)(k:Nat): Txt.slice (txt l) none (some (k:Int))=txt (l.take k):=by
 by_cases h:k<=l.length
 ·have:=StrLaws.sliceText_to (x:=txt l) (j:=(k:Int)) ⟨by omega,by rw [jl];omega⟩
  rw [jl] at this;show StrLaws.sliceText (txt l) none (some (k:Int))=_;rw [this,uc,show((k:Int)-0).toNat=k by omega]
 ·have h2:strSliceIndices none (some (k:Int)) 1 (txt l).length=strSliceIndices none (some ((l.length:Nat):Int)) 1 (txt l).length:=by
   rw [jm];have a:¬((k:Int)<0):=by omega
   have b:¬((l.length:Int)<0):=by omega
   have c:min (k:Int) (l.length:Int)=min (l.length:Int) (l.length:Int):=by omega
   simp only [strSliceIndices,a,b,g0g];simp [c]
  have this:=StrLaws.sliceText_to (x:=txt l) (j:=((l.length:Nat):Int)) ⟨by omega,by rw [jl];omega⟩;rw [jl] at this;have e:Txt.slice (txt l) none (some (k:Int))=StrLaws.sliceText (txt l) none (some ((l.length:Nat):Int)):=by
   unfold Txt.slice StrLaws.sliceText;rw [h2]
  rw [e,this,uc,ny (u6 (Nat.lt_of_not_le h))]
  congr 2
  rw [ny];omega
theorem qbn{l:List Nat}{k:Nat}(h:k<=l.length): Txt.slice (txt l) (some (k:Int)) none=txt (l.drop k):=by
 have:=StrLaws.sliceText_from (x:=txt l) (i:=(k:Int)) ⟨by omega,by rw [jl];omega⟩;rw [jl] at this;show StrLaws.sliceText (txt l) (some (k:Int)) none=_;rw [this,ny]
 ·rfl
 ·rw [nz];omega
theorem q56(l:List Nat)(c:Nat): Txt.slice (txt (l++[c])) none (some (-1))=txt l:=by
 have h:(txt (l++[c])).length=l.length+1:=by rw [jm,gh];rfl
 have:=StrLaws.sliceText_to_neg (x:=txt (l++[c])) (j:= -1) (by decide) (by rw [h];omega);rw [jl,h] at this;show StrLaws.sliceText (txt (l++[c])) none (some (-1))=_;rw [this,uc,show(-1+((l.length+1:Nat):Int)-0).toNat=l.length by omega,List.take_left]
section
variable{u w:FS}{t:FT}{f:FE}{fa:FA}{ρ ρ1:Rho}{d:D}{ds:List D}{i n:Nat}{c:Bool}{r:Option Fl}
abbrev g1(x:Option (Fl×Rho)): Option Fl:=x.map Prod.fst
theorem yr(h:g1 (u (ds.map (fun d=>some (.fz d))++List.replicate (n-ds.length) none))=some (.rt d)): zb n u ds=some d:=qjj h
theorem z8(h1:u ρ = some (.nx, ρ1))(h2:g1 (w ρ1)=r): g1 (qt u w ρ)=r:=by unfold qt;rw [h1,g6];exact h2
theorem qjl(h1:g1 (u ρ)=some (.rt d)): g1 (qt u w ρ)=some (.rt d):=by
 cases e:u ρ with
 | none=>rw [e] at h1;cases h1
 | some p=>
  obtain⟨fl, ρ2⟩:=p;rw [e] at h1;cases h1;unfold qt;rw [e,g6];rfl
theorem qjm(h1:t ρ = some c)(hc:c=true)(h2:g1 (u ρ)=r): g1 (sIf t u w ρ)=r:=by subst hc;unfold sIf;rw [h1,g6];exact h2
theorem y_ret(h1:f ρ = some d): g1 (zj f ρ)=some (.rt d):=by unfold zj;rw [h1,m6];rfl
theorem q73(h1:frz i ρ = ρ1)(h2:g1 (u ρ1)=r): g1 (w8 i u ρ)=r:=by unfold w8;rw [h1];exact h2
end
section
variable{f g:FE}{lo hi:FO}{ρ : Rho}{l:List Nat}
theorem q3c{a b:Option Int}{m:List Nat}(h1:f ρ = some (S l))(h2:lo ρ = some a)(h3:hi ρ = some b)(h4:l.length<=1000000)(h5:Txt.slice (txt l) a b=txt m): w9 f lo hi ρ = some (S m):=by
 unfold w9;rw [h1,g6,h2,g6,h3,g6];simp only [jm];rw [gu h4,h5]
theorem qdg(h1:f ρ = some (S l)): q81 f ρ = some ((l.map fun c=>[c]).map S):=by
 unfold q81;rw [h1,g6];simp only [q1a,jl,gj]
 rfl
theorem qkj{m:Nat}{s2:Str}(h1:f ρ = some (.int (m:Int)))(h2:m.log2<1920): qax f s2 ρ = some (.str (txt (dg m)++s2)):=by
 unfold qax;rw [h1,g6];simp only [Int.natAbs_natCast];rw [gu h2,qa9]
theorem q8w{m:Nat}(h2:m.log2<1920): q5m [.int (m:Int)]=some (S (dg m)):=by
 unfold q5m;simp only [Int.natAbs_natCast];rw [gu h2];exact n3 (fun x=>some (D.str x)) (qa9 m)
theorem q6l{m:Nat}(h:(dg m).length<=640): q34 [S (dg m)]=some (.int (m:Int)):=by
 unfold q34;simp only [jm];rw [gu h,qh1 (by omega)];rfl
theorem qfq(h:l.length<=1000000): vn [S l]=some (.int l.length):=by
 unfold vn;simp only [jm];rw [gu h]
theorem qaa{c:Nat}{ls:List (List Nat)}(h1:f ρ = some (S (jn c ls)))(h2:g ρ = some (S [c]))(h0:ls≠[])(hf:∀l∈ls,c∉l)(hl:(jn c ls).length+2<=1000000): q2a f g ρ = some (ls.map S):=by
 unfold q2a;rw [h1,g6,h2,g6];have hp:=q6i (txt (jn c ls)) (txt [c]);have hs:=split_len (txt (jn c ls)) (txt [c]);have hz:(txt (jn c ls)).length=(jn c ls).length:=jm _;simp only [];rw [gu ⟨rfl,by rw [hz];show _<=1000000;omega,by show _<=1000000;omega,by show _<=1000000;omega⟩,qf3 h0 hf,gj]
 rfl
theorem qf5{ls:List (List Nat)}(h1:f ρ = some (.lst (ls.map S)))(hn:ls.Nodup)(hl:ls.length<=1000): q37 f ρ = some (.int ls.length):=by
 have one:∀(a b:List Str),(a++b).Nodup->b.foldl step_dedup a=a++b:=by
  intro a b
  induction b generalizing a with
  | nil=>intro _;simp
  | cons y b ih=>
   intro h;have hy:y∉a:=fun z=>by
    rw [g0w] at h;exact h.2.2 y z y gi rfl
   rw [u4,q1n hy,ih _ (by rw [mz];exact h),mz];rfl
 unfold q37;rw [h1,g6];simp only [kz,g6,g7];rw [gu (by show _<4096;omega)];have hnd:(ls.map txt).Nodup:=List.Pairwise.map txt (fun a b h z=>h (q1d z)) hn;have:=one [] (ls.map txt) (by simpa using hnd);unfold j6;rw [this,u5,g7]
end
end DL
namespace My
open PySem PyProof.Rows L2 DL Tx
structure NmOk(nm:List (List Nat)): Prop where
 nd:nm.Nodup
 one:∀n∈nm,1<=n.length/\n.length<=8/\∀c∈n,97<=c/\c<=122
theorem qh4(fa:FA)(ρ : Rho)(a b:Nat)(h:fa ρ = some [.int (a:Int),.int (b:Int)])(h2:b<2 ^ 60)(h1:a<2 ^ 60): iR2 fa ρ = some (qp (a:Int) (b-a)):=by
 unfold iR2;rw [h,g6];simp only [];rw [gu (by simp only [mj,decide_eq_true_iff];omega)]
 congr 2
 omega
theorem map_range(lo:Nat)(n:Nat)(g:Nat->List Nat)(G:D->D)(h:∀k:Nat,G (.int (k:Int))=S (g k)): (qp (lo:Int) n).map G=((List.range n).map fun k=>g (lo+k)).map S:=by
 unfold qp;rw [gj,gj];refine mm fun k _=>?_;have:=h (lo+k);simp only [Function.comp];rw [<- this]
 congr 2
theorem qh5(ns:List Int): ∃mx:Nat->Nat,∀k:Nat,k<=1000000->qv [.lst (ns.map .int),.int (k:Int)]=some (.int (mx k:Int)):=by
 classical
 refine⟨fun k=>if h:k<=1000000 then(vd ns (k:Int) (by omega) (by omega)).choose.toNat else 0,fun k hk=>?_⟩;have h:=(vd ns (k:Int) (by omega) (by omega)).choose_spec;dsimp only;rw [dif_pos hk,ng h.2.1];exact h.1
theorem x3(a b:Nat)(h:0<b): oMod (.int (a:Int)) (.int (b:Int))=some (.int ((a%b:Nat):Int)):=by
 rw [q0i _ _ (by omega)];rfl
theorem qjn(i:Nat)(h:i<26): ltr[i]? = some (97+i):=by
 unfold ltr;rw [gv,List.getElem?_range h,m6,Nat.add_comm]
theorem q8x(i:Nat)(h:i<26): yl (S ltr) (.int (i:Int))=some (S [97+i]):=q42 (qjn i h) (by decide)
def nmA(wd:List Nat)(i W:Nat): List (List Nat):=((List.range (min W 8)).map fun k=>wd.take (0+k+1))++((List.range (max 1 (W-7)-1)).map fun k=>[97+(i+(1+k))%26])
def nmB(st:List Nat)(at' t W:Nat): List (List Nat):=(List.range W).map fun k=>st.take at'++[97+(t+5*(0+k))%26]++st.drop at'
theorem yt{n:Nat}{g:Nat->List Nat}(h:∀a b,a<n->b<n->g a=g b->a=b): ((List.range n).map g).Nodup:=by
 rw [tw,um];refine g18 ?_ (List.nodup_range (n:=n));intro a b ha hb hab e;exact hab (h a b (n0.mp ha) (n0.mp hb) e)
theorem qjo{wd:List Nat}{i W:Nat}(hw:wd.length=8)(hc:∀c∈wd,97<=c/\c<=122)(h0:wd[0]? = some (97+i))(hi:i<26)(hW:W<=12): NmOk (nmA wd i W)/\(nmA wd i W).length=W:=by
 refine⟨⟨?_,?_⟩,?_⟩
 ·unfold nmA
  rw [g0w];refine⟨yt fun a b ha hb e=>?_,yt fun a b ha hb e=>?_,fun x hx y hy e=>?_⟩
  ·have:=n3 List.length e
   rw [mn,mn,hw] at this;omega
  ·injection e with e
   omega
  ·obtain⟨a,ha,rfl⟩:=gf.mp hx
   obtain⟨b,hb,rfl⟩:=gf.mp hy;have ha:=n0.mp ha;have hb:=n0.mp hb;have h1:=n3 List.length e;rw [mn,hw,gs] at h1;have ha0:a=0:=by omega
   subst ha0;have h2:=n3 (fun l:List Nat=>l[0]?) e;simp only [ug] at h2;rw [g0y (by omega),h0] at h2;injection h2 with h2
   omega
 ·intro n hn
  rcases nh.mp hn with hn|hn
  ·obtain⟨a,ha,rfl⟩:=gf.mp hn
   have ha:=n0.mp ha;rw [mn,hw];exact⟨by omega,by omega,fun c h=>hc c (g0a h)⟩
  ·obtain⟨a,ha,rfl⟩:=gf.mp hn
   refine⟨by simp,by simp,fun c h=>?_⟩;rw [nj.mp h];omega
 ·unfold nmA
  rw [gh,g7,g7,uk,uk];omega
theorem qjp{st:List Nat}{at' t W:Nat}(hs:st.length<=7)(hc:∀c∈st,97<=c/\c<=122)(ha:at'<=st.length)(hW:W<=12): NmOk (nmB st at' t W)/\(nmB st at' t W).length=W:=by
 refine⟨⟨?_,?_⟩,by unfold nmB;simp⟩
 ·unfold nmB
  refine yt fun a b ha' hb e=>?_;rw [mz,mz] at e;have e2:=List.append_cancel_left e;injection e2 with e3 e4
  omega
 ·intro n hn
  obtain⟨a,ha',rfl⟩:=gf.mp hn;refine⟨by simp only [gh,gs];omega,by simp only [gh,gs,mn,nz];omega,fun c h=>?_⟩;simp only [nh,nj] at h;rcases h with(h|h)|h
  ·exact hc c (g0a h)
  ·subst h;omega
  ·exact hc c (List.mem_of_mem_drop h)
theorem qdh(i:Nat)(h:i<26): q33 q1m (S ltr) (S [97+i])=some (.int (i:Int)):=by
 unfold q33 q1m;simp only [jm];rw [show ltr.length=26 from rfl,qh3 i h]
theorem q8y(ns:List Int)(W:Nat)(hW:W<=12): ∃nm:List (List Nat),vw [.lst (ns.map .int),.str "abcdefghijklmnopqrstuvwxyz",.int (W:Int)]=some (.lst (nm.map S))/\nm.length=W/\NmOk nm:=by
 obtain⟨mx,hmx⟩:=qh5 ns;rw [qjk]
 let wd:List Nat:=(List.range 8).map fun k=>97+mx (303+(0+k))%26
 have hwl:wd.length=8:=by simp [wd]
 have hwc:∀c∈wd,97<=c/\c<=122:=fun c hc=>by
  obtain⟨k,_,rfl⟩:=gf.mp hc;omega
 have hw0:wd[0]? = some (97+mx 303%26):=rfl;have hword:∀(x1 x2:Option B) (r:Rho),eOp vg (eC (.str "")) (eL (zf (iR1 (qa (eC (.int 8)) qg)) [none,some 1,some 0] (bN 0) z7 (eOp yl (eV 1) (eOp oMod (qh (qo 2 [] qv) (qa (eV 2) (qa (eOp zk (eC (.int 303)) (eV 0)) qg))) (eC (.int 26))))))
   (some (.fz (.lst (ns.map .int))) :: some (.fz (S ltr)) :: r)=some (S wd):=fun x1 x2 r=>by
  have e1:wd=(((List.range 8).map fun k=>[97+mx (303+(0+k))%26])).flatten:=by
   show List.map _ _=_;rw [<- List.flatMap_def,List.map_eq_flatMap]
  rw [e1];refine qu x_c (x_l (jc (q01 _ _ 8 (qc x_c qj) (by decide) (by decide)) (by rw [wo];decide) ?_)) (by rw [sE];exact q6k (B:=1) (fun l hl=>by obtain⟨k,_,rfl⟩:=gf.mp hl;simp) (by simp));have:=zc (b:=bN 0) (f:=eOp yl (eV 1) (eOp oMod (qh (qo 2 [] qv) (qa (eV 2) (qa (eOp zk (eC (.int 303)) (eV 0)) qg))) (eC (.int 26)))) (ρ :=v3 [none,some 1,some 0] (some (.fz (.lst (ns.map .int))) :: some (.fz (S ltr)) :: r)) (fun d=>match d with | .int n=>S [97+mx (303+n.toNat)%26]|_=>.non) (ds:=qp 0 8) fun d hd=>by
   obtain⟨k,hk,rfl⟩:=gf.mp hd;have hk:=n0.mp hk;refine⟨_,rfl,?_⟩;rw [show((0:Int)+(k:Int))=(k:Int) by omega];refine qu (x_v rfl) (qu (z6 (qc (x_v rfl) (qc (qu x_c (x_v rfl) (vb _ _)) qj)) rfl (hmx (303+k) (by omega))) x_c (x3 _ 26 (by decide))) ?_;exact q8x _ (t8 _ (by decide))
  rw [show(8:Int).toNat=8 from rfl,this];exact n3 some (map_range 0 8 (fun k=>[97+mx (303+k)%26]) _ fun k=>rfl)
 by_cases h4:mx 312%4=0
 ·obtain⟨hok,hlen⟩:=qjo (W:=W) hwl hwc hw0 (t8 _ (by decide)) hW
  refine⟨_,?_,hlen,hok⟩;refine yr ?_;refine z8 (ji (z6 (qc (x_v rfl) (qc x_c qj)) rfl (hmx 301 (by decide)))) (z8 (ji (hword none none _)) (qjl (qjm (wq (qu (z6 (qc (x_v rfl) (qc x_c qj)) rfl (hmx 312 (by decide))) x_c (x3 _ 4 (by decide))) x_c (k7 _ _)) (m9 (by omega)) ?_)));refine z8 (ji (qu (x_v rfl) (qu (x_v rfl) x_c (q42 (i:=0) hw0 (by rw [hwl];decide))) (qdh _ (t8 _ (by decide))))) ?_;refine z8 (q53 (ds:=((List.range (max 1 (W-7)-1)).map fun k=>[97+(mx 303%26+(1+k))%26]).map S) (jc (qh4 _ _ 1 (max 1 (W-7)) (qc x_c (qc (x_call (qc x_c (qc (qu (x_v rfl) x_c (q41 _ _)) qj)) ?_) qj)) (by omega) (by omega)) (by rw [wo];show _<=1000000;omega) ?_)) ?_
  ·show some (D.int (if(1:Int)<(W:Int)-7 then(W:Int)-7 else 1))=_
   congr 2
   split <;> omega
  ·have:=zc (b:=bN 0) (f:=eOp yl (eV 1) (eOp oMod (eOp zk (eV 2) (eV 0)) (eC (.int 26)))) (ρ :=[none,some (.fz (S ltr)),some (.fz (.int ((mx 303%26:Nat):Int)))]) (fun d=>match d with | .int n=>S [97+(mx 303%26+n.toNat)%26]|_=>.non) (ds:=qp ((1:Nat):Int) (max 1 (W-7)-1)) fun d hd=>by
    obtain⟨k,hk,rfl⟩:=gf.mp hd;refine⟨_,rfl,?_⟩;rw [show(((1:Nat):Int)+(k:Int))=((1+k:Nat):Int) by omega];refine qu (x_v rfl) (qu (qu (x_v rfl) (x_v rfl) (vb _ _)) x_c (x3 (mx 303%26+(1+k)) 26 (by decide))) ?_;exact q8x _ (t8 _ (by decide))
   refine this.trans ?_;exact n3 some (map_range 1 (max 1 (W-7)-1) (fun k=>[97+(mx 303%26+k)%26]) _ fun k=>rfl)
  refine q73 rfl (y_ret ?_);refine qu (x:=.lst (((List.range (min W 8)).map fun k=>wd.take (0+k+1)).map S)) (x_l (jc (ds:=qp ((0:Nat):Int) (min W 8)) ?_ (by rw [wo];show _<=1000000;omega) ?_)) (x_v rfl) ?_
  ·refine q01 _ _ ((min W 8:Nat):Int) (qc (x_call (qc (x_v rfl) (qc x_c qj)) ?_) qj) (by omega) (by omega)
   show some (D.int (if(8:Int)<(W:Int) then 8 else(W:Int)))=_
   congr 2
   split <;> omega
  ·have:=zc (b:=bN 0) (f:=w9 (eV 1) oNo (oAt (eOp zk (eV 0) (eC (.int 1))))) (ρ :=[none,some (.fz (S wd))]) (fun d=>match d with | .int n=>S (wd.take (n.toNat+1))|_=>.non) (ds:=qp ((0:Nat):Int) (min W 8)) fun d hd=>by
    obtain⟨k,hk,rfl⟩:=gf.mp hd;refine⟨_,rfl,?_⟩;rw [show(((0:Nat):Int)+(k:Int))=(k:Int) by omega];exact q3c (x_v rfl) q2u (x_at (qu (x_v rfl) x_c (vb _ _))) (by rw [hwl];decide) (q43 wd (k+1))
   refine this.trans ?_;exact n3 some (map_range 0 (min W 8) (fun k=>wd.take (k+1)) _ fun k=>rfl)
  ·rw [qd8 _ _ (by simp only [g7,uk];omega), <- nu];rfl
 ·have hsz:mx 302%8<8:=t8 _ (by decide)
  have hst:(wd.take (mx 302%8)).length=mx 302%8:=by rw [mn,hwl];omega
  obtain⟨hok,hlen⟩:=qjp (st:=wd.take (mx 302%8)) (at':=mx 311%(mx 302%8+1)) (t:=mx 301) (W:=W) (by omega) (fun c hc=>hwc c (g0a hc)) (by have:=t8 (mx 311) (show 0<mx 302%8+1 by omega);omega) hW;refine⟨_,?_,hlen,hok⟩;refine yr ?_;refine z8 (ji (z6 (qc (x_v rfl) (qc x_c qj)) rfl (hmx 301 (by decide)))) (z8 (ji (hword none none _)) (z8 (x9 (wq (qu (z6 (qc (x_v rfl) (qc x_c qj)) rfl (hmx 312 (by decide))) x_c (x3 _ 4 (by decide))) x_c (k7 _ _)) (m8 (by omega)) jz) (q73 rfl ?_)));refine z8 (ji (qu (z6 (qc (x_v rfl) (qc x_c qj)) rfl (hmx 302 (by decide))) x_c (x3 _ 8 (by decide)))) ?_;refine z8 (ji (q3c (x_v rfl) q2u (x_at (x_v rfl)) (by rw [hwl];decide) (q43 wd _))) ?_;refine z8 (ji (qu (z6 (qc (x_v rfl) (qc x_c qj)) rfl (hmx 311 (by decide))) (qu (x_v rfl) x_c (vb _ _)) (x3 _ (mx 302%8+1) (by omega)))) ?_;refine y_ret (x_l (jc (ds:=qp ((0:Nat):Int) W) ?_ (by rw [wo];show _<=1000000;omega) ?_))
  ·exact q01 _ _ (W:Int) (qc (x_v rfl) qj) (by omega) (by omega)
  have hta:mx 311%(mx 302%8+1)<=(wd.take (mx 302%8)).length:=by have:=t8 (mx 311) (show 0<mx 302%8+1 by omega);omega
  generalize mx 311%(mx 302%8+1)=at' at *;generalize wd.take (mx 302%8)=st at *;have:=zc (b:=bN 0) (f:=eOp xk (eOp xk (w9 (eV 1) oNo (oAt (eV 3))) (eOp yl (eV 2) (eOp oMod (eOp zk (eV 4) (eOp zv (eC (.int 5)) (eV 0))) (eC (.int 26))))) (w9 (eV 1) (oAt (eV 3)) oNo)) (ρ :=[none,some (.fz (S st)),some (.fz (S ltr)),some (.fz (.int (at':Int))),some (.fz (.int (mx 301:Int)))]) (fun d=>match d with | .int n=>S (st.take at'++[97+(mx 301+5*n.toNat)%26]++st.drop at')|_=>.non) (ds:=qp ((0:Nat):Int) W) fun d hd=>by
   obtain⟨k,hk,rfl⟩:=gf.mp hd;have hk:=n0.mp hk;refine⟨_,rfl,?_⟩;rw [show(((0:Nat):Int)+(k:Int))=(k:Int) by omega];refine qu (qu (q3c (x_v rfl) q2u (x_at (x_v rfl)) (by show _<=1000000;omega) (q43 st _)) (qu (x_v rfl) (qu (qu (x_v rfl) (qu x_c (x_v rfl) (q3m _ _ (by decide))) (vb _ _)) x_c (x3 (mx 301+5*k) 26 (by decide))) (q8x _ (t8 _ (by decide)))) (yh (by rw [mn,gs];omega))) (q3c (x_v rfl) (x_at (x_v rfl)) q2u (by show _<=1000000;omega) (qbn hta)) (yh (by simp only [gh,mn,gs,nz];omega))
  refine this.trans ?_;exact n3 some (map_range 0 W (fun k=>st.take at'++[97+(mx 301+5*k)%26]++st.drop at') _ fun k=>rfl)
abbrev TS(nm:List (List Nat)): D:=.tup (nm.map S)
def pick(nm:List (List Nat))(b:List Int): List (List Nat):=b.map fun x=>nm.getD x.toNat []
def vk(m:Nat)(ls:List (List Nat)): List Nat:=(dg m++[58])++(ls.map fun n=>32 :: n).flatten
theorem q5x:∀(ls:List (List Nat)) (x:List Nat),x++(ls.map fun n=>32 :: n).flatten=jn 32 (x :: ls)
 | [],x=>by simp [jn]
 | n :: ls,x=>by
  rw [ve, <- q5x ls n,gy,mv];rfl
theorem lg{m:Nat}(h:m<10 ^ 16): m.log2<1920:=by
 by_cases h0:m=0
 ·subst h0;decide
 ·have:m.log2<64:=(Nat.log2_lt h0).mpr (Nat.lt_trans h (by decide))
  omega
structure BOk(nm:List (List Nat))(b:List Int): Prop where
 len:b.length<=12
 mem:∀x∈b,0<=x/\x<(nm.length:Int)
theorem getD_mem{nm:List (List Nat)}{i:Nat}(h:i<nm.length): nm.getD i []∈nm:=by
 rw [n8,m7 h];exact g19 h
theorem q1z{nm:List (List Nat)}{b:List Int}(hb:BOk nm b){n:List Nat}(h:n∈pick nm b): n∈nm:=by
 obtain⟨x,hx,rfl⟩:=gf.mp h;have:=hb.mem x hx;exact getD_mem (by omega)
theorem blanks{nm:List (List Nat)}(hok:NmOk nm){b:List Int}(hb:BOk nm b): zo (bN 0) z7 (eOp xk (eC (.str " ")) (eOp oIx (eV 1) (eV 0))) [none,some (.fz (TS nm))] (b.map D.int)=some (((pick nm b).map fun n=>32 :: n).map S):=by
 have:=zc (b:=bN 0) (f:=eOp xk (eC (.str " ")) (eOp oIx (eV 1) (eV 0))) (ρ :=[none,some (.fz (TS nm))]) (fun d=>match d with | .int x=>S (32 :: nm.getD x.toNat [])|_=>.non) (ds:=b.map D.int) fun d hd=>by
  obtain⟨x,hx,rfl⟩:=gf.mp hd;have h:=hb.mem x hx;obtain⟨i,rfl⟩:=Int.eq_ofNat_of_zero_le h.1;have hi:i<nm.length:=by omega
  refine⟨_,rfl,qu x_c (qu (x_v rfl) (x_v rfl) ((qez _ _).trans (by rw [vc,gv,m7 hi];rfl))) ?_⟩;rw [sSp,yh (by have:=(hok.one _ (g19 hi)).2.1;rw [gs];omega)];simp only [Int.toNat_natCast,n8,m7 hi,Option.getD_some]
  rfl
 rw [this];unfold pick;rw [gj,gj,gj];rfl
theorem q2x{nm:List (List Nat)}(hok:NmOk nm){b:List Int}(hb:BOk nm b): ∀l∈(pick nm b).map fun n=>32 :: n,l.length<=9:=fun l hl=>by
 obtain⟨n,hn,rfl⟩:=gf.mp hl;have:=(hok.one n (q1z hb hn)).2.1;rw [gz];omega
theorem q20{B:Nat}: ∀ {ls:List (List Nat)},(∀l∈ls,l.length<=B)->ls.flatten.length<=ls.length*B
 | [],_=>by simp
 | l :: ls,h=>by
  have h1:=h l gi;have h2:=q20 (ls:=ls) fun l hl=>h l (gr _ hl);rw [mv,gh,gz,g1m];omega
theorem qf6{nm:List (List Nat)}(hok:NmOk nm){b:List Int}(hb:BOk nm b){m:Nat}(hm:m<10 ^ 16): (vk m (pick nm b)).length<=200:=by
 have h1:=q1e (k:=16) (by decide) hm;have h2:=q20 (q2x hok hb);have h3:=hb.len;unfold vk;rw [gh,gh,gs];rw [g7] at h2;unfold pick at h2 ⊢;rw [g7] at h2;omega
theorem qab{nm:List (List Nat)}(hok:NmOk nm){b:List Int}(hb:BOk nm b): vg (S []) (.lst (((pick nm b).map fun n=>32 :: n).map S))=some (S ((pick nm b).map fun n=>32 :: n).flatten):=q6k (q2x hok hb) (by
 have:=hb.len;rw [g7];unfold pick;rw [g7];omega)
theorem qac{nm:List (List Nat)}(hok:NmOk nm){b:List Int}(hb:BOk nm b): ((pick nm b).map fun n=>32 :: n).flatten.length<=108:=by
 have h2:=q20 (q2x hok hb);have h3:=hb.len;rw [g7] at h2;unfold pick at h2 ⊢;rw [g7] at h2;omega
theorem q57{nm:List (List Nat)}(hok:NmOk nm){b:List Int}(hb:BOk nm b){m:Nat}(hm:m<10 ^ 16): jj [TS nm,.int (m:Int),TI b]=some (S (vk m (pick nm b))):=by
 have h1:=q1e (k:=16) (by decide) hm;have h2:=qac hok hb;refine q0j (q1w (qu (qkj (x_v rfl) (lg hm)) (qu x_c (x_l (jc (xq (x_v rfl) rfl) (by rw [g7];have:=hb.len;show _<=1000000;omega) (blanks hok hb))) (by rw [sE];exact qab hok hb)) ?_));rw [sCo,k9];exact yh (by rw [gh,gs];omega)
theorem q3o{nm:List (List Nat)}(hok:NmOk nm){b:List Int}(hb:BOk nm b){m:Nat}(hm:m<10 ^ 16): zw [.int (m:Int),TS nm,TI b]=some (S (vk m (pick nm b))):=by
 have h1:=q1e (k:=16) (by decide) hm;have h2:=qac hok hb;refine q0j (q1w (qu (qu (x_call (qc (x_v rfl) qj) (q8w (lg hm))) x_c (by rw [sCo];exact yh (by rw [gs];omega))) (qu x_c (x_l (jc (xq (x_v rfl) rfl) (by rw [g7];have:=hb.len;show _<=1000000;omega) (blanks hok hb))) (by rw [sE];exact qab hok hb)) ?_));exact yh (by rw [gh,gs];omega)
structure ROk(nm:List (List Nat))(r:Run): Prop where
 m0:0<=r.1
 m1:r.1<10 ^ 16
 b:BOk nm r.2
def lnR(nm:List (List Nat))(r:Run): List Nat:=vk r.1.toNat (pick nm r.2)
abbrev pairD(r:Run): D:=.tup [TI r.2,.int r.1]
theorem q1f{nm:List (List Nat)}(hok:NmOk nm){rs:List Run}(hr:∀r∈rs,ROk nm r): ∀l∈rs.map (lnR nm),l.length<=200:=fun l hl=>by
 obtain⟨r,h,rfl⟩:=gf.mp hl;have h:=hr r h;exact qf6 hok h.b (by have:=h.m0;have:=h.m1;omega)
theorem qad{nm:List (List Nat)}(hok:NmOk nm){rs:List Run}(hr:∀r∈rs,ROk nm r)(hl:rs.length<=63): vg (S [10]) (.lst ((rs.map (lnR nm)).map S))=some (S (jn 10 (rs.map (lnR nm)))):=
 q6j (q1f hok hr) (by rw [g7];omega)
theorem q8z{nm:List (List Nat)}(hok:NmOk nm){w:D}{rs:List Run}(hr:∀r∈rs,ROk nm r)(hl:rs.length<=63): q00 [TS nm,.tup [w,.tup (rs.map runD)]]=some (S (jn 10 (rs.map (lnR nm)))):=by
 refine q0j (q1w (qu x_c (x_l (jc (xq (qu (x_v rfl) x_c (y:=.int 1) rfl) rfl) (by rw [g7];show _<=1000000;omega) ?_)) (by rw [sNl];exact qad hok hr hl)));have:=zc (b:=xh 2 (za (bN 0) (za (bN 1) xg))) (f:=qh (qo 3 [] jj) (qa (eV 2) (qa (eV 0) (qa (eV 1) qg)))) (ρ :=[none,none,some (.fz (TS nm))]) (fun d=>match d with | .tup [.int m,.tup b]=>S (vk m.toNat (pick nm (b.map fun x=>match x with | .int i=>i|_=>0)))|_=>.non) (ds:=rs.map runD) fun d hd=>by
  obtain⟨r,h,rfl⟩:=gf.mp hd;have h:=hr r h;refine⟨_,rfl,z6 (qc (x_v rfl) (qc (x_v rfl) (qc (x_v rfl) qj))) rfl ?_⟩;have e:=q57 hok h.b (m:=r.1.toNat) (by have:=h.m0;have:=h.m1;omega);rw [ng h.m0] at e;refine e.trans ?_;simp only [gj,nr,pj]
 refine this.trans ?_;rw [gj,gj];refine n3 some (mm fun r _=>?_);simp only [Function.comp,runD,TI,gj,pj];simp [lnR,nr]
theorem qdi{nm:List (List Nat)}(hok:NmOk nm){rs:List Run}(hr:∀r∈rs,ROk nm r)(hl:rs.length<=63): q0h [TS nm,.tup (rs.map pairD)]=some (S (jn 10 (rs.map (lnR nm)))):=by
 refine q0j (q1w (qu x_c (x_l (jc (xq (x_v rfl) rfl) (by rw [g7];show _<=1000000;omega) ?_)) (by rw [sNl];exact qad hok hr hl)));have:=zc (b:=xh 2 (za (bN 0) (za (bN 1) xg))) (f:=qh (qo 3 [] jj) (qa (eV 2) (qa (eV 1) (qa (eV 0) qg)))) (ρ :=[none,none,some (.fz (TS nm))]) (fun d=>match d with | .tup [.tup b,.int m]=>S (vk m.toNat (pick nm (b.map fun x=>match x with | .int i=>i|_=>0)))|_=>.non) (ds:=rs.map pairD) fun d hd=>by
  obtain⟨r,h,rfl⟩:=gf.mp hd;have h:=hr r h;refine⟨_,rfl,z6 (qc (x_v rfl) (qc (x_v rfl) (qc (x_v rfl) qj))) rfl ?_⟩;have e:=q57 hok h.b (m:=r.1.toNat) (by have:=h.m0;have:=h.m1;omega);rw [ng h.m0] at e;refine e.trans ?_;simp only [gj,nr,pj]
 refine this.trans ?_;rw [gj,gj];refine n3 some (mm fun r _=>?_);simp only [Function.comp,pairD,TI,gj,pj];simp [lnR,nr]
theorem q6m{nm:List (List Nat)}(hok:NmOk nm){rs:List Run}(hr:∀r∈rs,ROk nm r): zo (xh 2 (za (bN 0) (za (bN 1) xg))) z7 (qh (qo 3 [] zw) (qa (eV 0) (qa (eV 2) (qa (eV 1) qg)))) [none,none,some (.fz (TS nm))] (rs.map runD)=some ((rs.map (lnR nm)).map S):=by
 have:=zc (b:=xh 2 (za (bN 0) (za (bN 1) xg))) (f:=qh (qo 3 [] zw) (qa (eV 0) (qa (eV 2) (qa (eV 1) qg)))) (ρ :=[none,none,some (.fz (TS nm))]) (fun d=>match d with | .tup [.int m,.tup b]=>S (vk m.toNat (pick nm (b.map fun x=>match x with | .int i=>i|_=>0)))|_=>.non) (ds:=rs.map runD) fun d hd=>by
  obtain⟨r,h,rfl⟩:=gf.mp hd;have h:=hr r h;refine⟨_,rfl,z6 (qc (x_v rfl) (qc (x_v rfl) (qc (x_v rfl) qj))) rfl ?_⟩;have e:=q3o hok h.b (m:=r.1.toNat) (by have:=h.m0;have:=h.m1;omega);rw [ng h.m0] at e;refine e.trans ?_;simp only [gj,nr,pj]
 refine this.trans ?_;rw [gj,gj];refine n3 some (mm fun r _=>?_);simp only [Function.comp,runD,TI,gj,pj];simp [lnR,nr]
theorem qdj{nm:List (List Nat)}(hok:NmOk nm){rs:List Run}(hr:∀r∈rs,ROk nm r): zo (xh 2 (za (bN 0) (za (bN 1) xg))) z7 (qh (qo 3 [] zw) (qa (eV 1) (qa (eV 2) (qa (eV 0) qg)))) [none,none,some (.fz (TS nm))] (rs.map pairD)=some ((rs.map (lnR nm)).map S):=by
 have:=zc (b:=xh 2 (za (bN 0) (za (bN 1) xg))) (f:=qh (qo 3 [] zw) (qa (eV 1) (qa (eV 2) (qa (eV 0) qg)))) (ρ :=[none,none,some (.fz (TS nm))]) (fun d=>match d with | .tup [.tup b,.int m]=>S (vk m.toNat (pick nm (b.map fun x=>match x with | .int i=>i|_=>0)))|_=>.non) (ds:=rs.map pairD) fun d hd=>by
  obtain⟨r,h,rfl⟩:=gf.mp hd;have h:=hr r h;refine⟨_,rfl,z6 (qc (x_v rfl) (qc (x_v rfl) (qc (x_v rfl) qj))) rfl ?_⟩;have e:=q3o hok h.b (m:=r.1.toNat) (by have:=h.m0;have:=h.m1;omega);rw [ng h.m0] at e;refine e.trans ?_;simp only [gj,nr,pj]
 refine this.trans ?_;rw [gj,gj];refine n3 some (mm fun r _=>?_);simp only [Function.comp,pairD,TI,gj,pj];simp [lnR,nr]
theorem q2y{x:List Nat}{ls:List (List Nat)}(h:∀l∈ls,l.length<=200)(hl:ls.length<=63)(e:x=jn 10 ls): y1 [S x,.lst (ls.map S)]=some (.bl true):=by
 refine q0j (q1w (q1c (qbj (x_v rfl)) rfl (qu (x_v rfl) (qu x_c (x_v rfl) (by rw [sNl];exact q6j h (by omega))) ?_)));rw [q5w,m9 e]
theorem qae{o1 o2:D->D->Option D}{a b c:FE}{ρ : Rho}{x y z r:D}(h1:a ρ = some x)(h2:b ρ = some y)(h3:o1 x y=some (.bl true))(h4:c ρ = some z)(h5:o2 y z=some r): q19 o1 o2 a b c ρ = some r:=by
 unfold q19;rw [h1,g6,h2,g6,h3,g6];show(c ρ).bind _=_;rw [h4,g6,h5]
theorem qf7{o1 o2:D->D->Option D}{a b c:FE}{ρ : Rho}{x y z:D}{q:Bool}(h1:a ρ = some x)(h2:b ρ = some y)(h3:o1 x y=some (.bl true))(h4:c ρ = some z)(h5:o2 y z=some (.bl q)): q4q o1 o2 a b c ρ = some q:=by
 unfold q4q;rw [qae h1 h2 h3 h4 h5];rfl
theorem qh6:vn [S (dg 1000000000000)]=some (.int 13):=by rfl
theorem qdk{l t:List Nat}(h:∀c∈l,c∈t)(x:D)(hx:x=S t): zo (bN 0) z7 (eOp q2e (eV 0) (eC x)) [none] ((l.map fun c=>[c]).map S)=some ((l.map fun _=>true).map D.bl):=by
 subst hx;have:=zc (b:=bN 0) (f:=eOp q2e (eV 0) (eC (S t))) (ρ :=[none]) (fun _=>.bl true) (ds:=(l.map fun c=>[c]).map S) fun d hd=>by
  obtain⟨z,hz,rfl⟩:=gf.mp hd;obtain⟨c,hc,rfl⟩:=gf.mp hz;refine⟨_,rfl,qu (x_v rfl) x_c ?_⟩;rw [qf4,m9 (h c hc)]
 rw [this,gj,gj,gj];rfl
theorem all_true{α : Type}: ∀l:List α,(l.map fun _=>true).all id=true
 | []=>rfl
 | _ :: l=>by simp
theorem qh7{c:Nat}(h:48<=c/\c<=57): c∈fig:=gf.mpr ⟨c-48,n0.mpr (by omega),by omega⟩
theorem qh8{c:Nat}(h:97<=c/\c<=122): c∈ltr:=gf.mpr ⟨c-97,n0.mpr (by omega),by omega⟩
theorem qbo{m:Nat}(h1:1<=m)(h2:m<=1000000000000): kx [S (dg m)]=some (.bl true):=by
 have hl:=q1e (k:=13) (m:=m) (by decide) (by omega);have hn:1<=(dg m).length:=by
  cases e:dg m with
  | nil=>exact absurd e (qfp m)
  | cons _ _=>simp
 obtain⟨c,r,e,hc⟩:=qh2 m h1;refine yr ?_;refine z8 (x9 (yp (qf7 x_c (x_call (qc (x_v rfl) qj) (qfq (by omega))) ?_ (x_call (qc (x_call (qc x_c qj) (q8w (m:=1000000000000) (by decide))) qj) qh6) (k8 _ _))) ?_ jz) ?_
 ·rw [k8,m9 (by omega)]
 ·rw [m9 (by omega)];rfl
 refine z8 (x9 (q5t (wq (qu (x_v rfl) x_c (q42 (i:=0) (c:=c) (by rw [e];rfl) (by omega))) x_c (by rw [s0];exact q5w _ _)) (m8 (by intro z;injection z with z;exact hc z)) (yp (q2v (x_call (qc (x_l (jc (qdg (x_v rfl)) (by rw [g7,g7];show _<=1000000;omega) (qdk (t:=fig) (fun c hc=>qh7 (q1y hc)) _ (by rw [qlc])))) qj) (q1v _)) rfl))) (by rw [all_true];rfl) jz) ?_;refine y_ret (qu (x_call (qc (x_v rfl) qj) (q6l (by omega))) x_c ?_);rw [k8,m9 (by omega)]
theorem qbp{m:Nat}(h1:1<=m)(h2:m<=1000000000000): ky [S (dg m++[58])]=some (.bl true):=by
 have hl:=q1e (k:=13) (m:=m) (by decide) (by omega);refine yr (y_ret (q1c (qu (x_v rfl) x_c (?_:_=some (D.bl true))) rfl (z6 (qc (q3c (x_v rfl) q2u (x_at (qev x_c rfl)) (by rw [gh,gs];omega) (q56 _ _)) qj) rfl (qbo h1 h2))));rw [sCo];show q2d (txt (dg m++[58])) (txt [58])=_;rw [<- k9];unfold q2d;rw [PySem.W.KT.ends_app]
theorem qbq{n:List Nat}(h:1<=n.length/\n.length<=8/\∀c∈n,97<=c/\c<=122): yg [S n]=some (.bl true):=by
 refine yr (y_ret (q1c (qae x_c (x_call (qc (x_v rfl) qj) (qfq (by omega))) (?_:_=some (D.bl true)) x_c (k8 _ _)) (m9 (by omega)) (x_call (qc (x_l (jc (qdg (x_v rfl)) (by rw [g7,g7];show _<=1000000;omega) (qdk (t:=ltr) (fun c hc=>qh8 (h.2.2 c hc)) _ (by rw [qjk])))) qj) ?_)))
 ·rw [k8,m9 (by omega)]
 ·rw [q1v,all_true]
theorem q90{ls:List (List Nat)}(h:NmOk ls)(hl:ls.length<=12): vx [.lst (ls.map S)]=some (.bl true):=by
 refine yr (y_ret (q1c (x_call (qc (x_l (ds:=(ls.map fun _=>true).map D.bl) (jc (ds:=ls.map S) (xq (x_v rfl) rfl) (by rw [g7];show _<=1000000;omega) ?_)) qj) (q1v _)) (all_true _) (qu (qf5 (x_v rfl) h.nd (by omega)) (x_call (qc (x_v rfl) qj) rfl) ?_)))
 ·have:=zc (b:=bN 0) (f:=qh (qo 1 [] yg) (qa (eV 0) qg)) (ρ :=[none]) (fun _=>.bl true) (ds:=ls.map S) fun d hd=>by
   obtain⟨n,hn,rfl⟩:=gf.mp hd;exact⟨_,rfl,z6 (qc (x_v rfl) qj) rfl (qbq (h.one n hn))⟩
  refine this.trans ?_;rw [gj,gj];rfl
 ·rw [k7,g7,m9 rfl]
theorem q91{ls:List (List Nat)}(h:NmOk ls)(hl:ls.length<=12){m:Nat}(h1:1<=m)(h2:m<=1000000000000): jk [S (vk m ls)]=some (.tup [.int (m:Int),.lst (ls.map S)]):=by
 have hd:=q1e (k:=13) (m:=m) (by decide) (by omega);have hf:∀l∈(dg m++[58]) :: ls,32∉l:=fun l hl'=>by
  rcases me.mp hl' with rfl|hl'
  ·intro z
   rcases nh.mp z with z|z
   ·have:=q1y z;omega
   ·have:=nj.mp z;omega
  ·intro z
   have:=(h.one l hl').2.2 32 z;omega
 have hlen:(jn 32 ((dg m++[58]) :: ls)).length+2<=1000000:=by
  rw [<- q5x];have h2:=q20 (B:=9) (ls:=ls.map fun n=>32 :: n) fun l hl'=>by
   obtain⟨n,hn,rfl⟩:=gf.mp hl';have:=(h.one n hn).2.1;rw [gz];omega
  rw [g7] at h2;rw [gh,gh,gs];omega
 have hix:oIx (D.lst (List.map S ((dg m++[58]) :: ls))) (D.int 0)=some (S (dg m++[58])):=by
  rw [qey,show(0:Int)=((0:Nat):Int) from rfl,vc];rfl
 have e0:vk m ls=jn 32 ((dg m++[58]) :: ls):=q5x ls _;rw [e0];refine yr ?_;refine z8 (ji (x_l (qaa (x_v rfl) (by rw [sSp];exact x_c) (by simp) hf hlen))) ?_;refine z8 (ji (qjg (x_v rfl) (x_at x_c) q2u (y:=.lst (ls.map S)) (n3 (fun l=>some (D.lst l)) (qeu (α :=Unit) (((dg m++[58]) :: ls).map S) 1)))) ?_;refine z8 (x9 (q5t (yp (q2v (z6 (qc (qu (x_v rfl) x_c hix) qj) rfl (qbp h1 h2)) rfl)) rfl (yp (q2v (z6 (qc (x_v rfl) qj) rfl (q90 h hl)) rfl))) rfl jz) ?_;exact y_ret (kh (qc (x_call (qc (q3c (qu (x_v rfl) x_c hix) q2u (x_at (qev x_c rfl)) (by rw [gh,gs];omega) (q56 _ _)) qj) (q6l (by omega))) (qc (x_v rfl) qj)) (show 2<=1000000 by decide))
structure TOk(nm:List (List Nat))(r:Run): Prop where
 m1:1<=r.1
 m2:r.1<=1000000000000
 b:BOk nm r.2
 nd:r.2.Nodup
theorem TOk.r{nm:List (List Nat)}{r:Run}(h:TOk nm r): ROk nm r:=⟨by have:=h.m1;omega,by have:=h.m2;omega,h.b⟩
abbrev ki(nm:List (List Nat))(r:Run): D:=.tup [.int r.1,.lst ((pick nm r.2).map S)]
theorem getD_inj{nm:List (List Nat)}(hn:nm.Nodup){i j:Nat}(hi:i<nm.length)(hj:j<nm.length)(e:nm.getD i []=nm.getD j []): i=j:=by
 rw [n8,n8,m7 hi,m7 hj] at e;exact(List.getElem_inj hn).mp e
theorem qh9{nm:List (List Nat)}(hok:NmOk nm){b:List Int}(hb:BOk nm b)(hn:b.Nodup): NmOk (pick nm b):=by
 refine⟨?_,fun n h=>hok.one n (q1z hb h)⟩;unfold pick;rw [tw,um];refine g18 ?_ hn;intro x y hx hy hxy e;have h1:=hb.mem x hx;have h2:=hb.mem y hy;have:=getD_inj hok.nd (i:=x.toNat) (j:=y.toNat) (by omega) (by omega) e;omega
theorem qha{nm:List (List Nat)}(hok:NmOk nm){r:Run}(h:TOk nm r): 10∉lnR nm r:=by
 unfold lnR vk;intro z;rcases nh.mp z with z|z
 ·rcases nh.mp z with z|z
  ·have:=q1y z;omega
  ·have:=nj.mp z;omega
 ·obtain⟨l,hl,hz⟩:=g1a.mp z
  obtain⟨n,hn,rfl⟩:=gf.mp hl;rcases me.mp hz with z|z
  ·cases z
  ·have:=(hok.one n (q1z h.b hn)).2.2 10 z;omega
theorem qdl{B:Nat}: ∀ {ls:List (List Nat)},(∀l∈ls,l.length<=B)->(ls.map List.length).sum<=ls.length*B
 | [],_=>by simp
 | l :: ls,h=>by
  have h1:=h l gi;have h2:=qdl (ls:=ls) fun l hl=>h l (gr _ hl);rw [gy,List.sum_cons,gz,g1m];omega
theorem qkk{c:Nat}: ∀ {ls:List (List Nat)},ls≠[]->(∀l∈ls,l≠[])->jn c ls≠[]
 | [],h,_=>absurd rfl h
 | [x],_,h=>h x gi
 | x :: y :: r,_,h=>by rw [ve];simp
theorem q9g{nm:List (List Nat)}(hok:NmOk nm){rs:List Run}(hr:∀r∈rs,TOk nm r)(hl:rs.length<=63)(h0:rs≠[]): yo [S (jn 10 (rs.map (lnR nm)))]=some (.lst (rs.map (ki nm))):=by
 have h1:rs.map (lnR nm)≠[]:=by intro z;rw [g0f] at z;exact h0 z
 have hlen:=q1f hok fun r h=>(hr r h).r;have hfree:∀l∈rs.map (lnR nm),10∉l:=fun l hl=>by
  obtain⟨r,h,rfl⟩:=gf.mp hl;exact qha hok (hr r h)
 have hjl:(jn 10 (rs.map (lnR nm))).length+2<=1000000:=by
  have a:=qdf 10 (rs.map (lnR nm));have b:=qdl hlen;rw [g7] at a b;omega
 have hne:jn 10 (rs.map (lnR nm))≠[]:=qkk h1 fun l hl=>by
  obtain⟨r,h,rfl⟩:=gf.mp hl;unfold lnR vk;intro z;rw [g1j,g1j] at z;exact absurd z.1.2 (by simp)
 refine yr (z8 (x9 (yp (q2v (qbj (x_v rfl)) rfl)) rfl jz) (z8 (x9 (wq (x_v rfl) x_c (by rw [sE];exact q5w _ _)) (m8 hne) jz) (y_ret (x_l (jc (ds:=(rs.map (lnR nm)).map S) (xq (x_l (qaa (x_v rfl) (by rw [sNl];exact x_c) h1 hfree hjl)) rfl) (by rw [g7,g7];show _<=1000000;omega) ?_)))));have key:∀(rs:List Run),(∀r∈rs,TOk nm r)->zo (bN 0) z7 (qh (qo 1 [] jk) (qa (eV 0) qg)) [none] ((rs.map (lnR nm)).map S)=some (rs.map (ki nm)):=by
  intro rs
  induction rs with
  | nil=>intro _;rfl
  | cons r rs ih=>
   intro hr;have h:=hr r gi;have e:=q91 (qh9 hok h.b h.nd) (by unfold pick;rw [g7];exact h.b.len) (m:=r.1.toNat) (by have:=h.m1;omega) (by have:=h.m2;omega);rw [ng (by have:=h.m1;omega)] at e;have e2:qh (qo 1 [] jk) (qa (eV 0) qg) [some (.fz (S (lnR nm r)))]=some (ki nm r):=z6 (qc (x_v rfl) qj) rfl e;have ih:=ih fun r hr'=>hr r (gr _ hr');rw [gy,gy,gy];unfold zo;show Option.bind (some _) _=_;rw [g6];show Option.bind (some true) _=_;rw [g6];simp only [pd];show Option.bind (qh (qo 1 [] jk) (qa (eV 0) qg) [some (.fz (S (lnR nm r)))]) _=_;rw [e2,g6,ih];rfl
 exact key rs hr
theorem qaf(nm:List (List Nat)): ∀rs:List Run,q84 (rs.map (ki nm))=some (rs.map fun r=>(pick nm r.2).map txt)
 | []=>rfl
 | r :: rs=>by
  rw [gy,q84];show(yk ((pick nm r.2).map S)).bind _=_;rw [kz,g6,qaf nm rs];rfl
theorem qhb:∀(a b:List Str),(a++b).Nodup->b.foldl step_dedup a=a++b:=by
 intro a b
 induction b generalizing a with
 | nil=>intro _;simp
 | cons y b ih=>
  intro h;have hy:y∉a:=fun z=>by
   rw [g0w] at h;exact h.2.2 y z y gi rfl
  rw [u4,q1n hy,ih _ (by rw [mz];exact h),mz];rfl
theorem qdm:∀(b a:List Str),(∀x∈b,x∈a)->b.foldl step_dedup a=a
 | [],a,_=>rfl
 | x :: b,a,h=>by rw [u4,q3y (h x gi),qdm b a fun y hy=>h y (gr _ hy)]
theorem qf8{a b:List Str}(hn:a.Nodup)(hb:∀x∈b,x∈a): j6 (a++b)=a:=by
 unfold j6;rw [g0u,qhb [] a (by simpa using hn),u5,qdm b a hb]
theorem q6n{nm:List (List Nat)}: ∀ {rs:List Run},(∀r∈rs,TOk nm r)->(rs.map fun r=>(pick nm r.2).map txt).flatten.length<=rs.length*12
 | [],_=>by simp
 | r :: rs,h=>by
  have h1:=(h r gi).b.len;have h2:=q6n (rs:=rs) fun r hr=>h r (gr _ hr);rw [gy,mv,gh,g7,gz,g1m];unfold pick at *;rw [g7];omega
theorem places_eq{nm:List (List Nat)}{rs:List Run}(hr:∀r∈rs,TOk nm r)(hl:rs.length<=63): js [.lst (rs.map (ki nm))]=some (y0 (j6 (rs.map fun r=>(pick nm r.2).map txt).flatten)):=by
 have:=q6n hr;refine yr (z8 (ρ1:=[some (.fz (.lst (rs.map (ki nm)))),some (.fz (y0 (j6 (rs.map fun r=>(pick nm r.2).map txt).flatten))),none,none,none]) ?_ (y_ret (x_v rfl)));show q86 1 2 3 4 (jr (eV 0)) [some (.fz (.lst (rs.map (ki nm)))),none,none,none,none]=_;unfold q86;rw [gu (by simp only [gz,t7];decide)];show Option.bind (some (rs.map (ki nm))) _=_;rw [g6,qaf,g6,gu (by show _<1000000;omega)]
 rfl
theorem q44:∀ks:List Str,q5k (ks.map Sum.inr)=some ks
 | []=>rfl
 | k :: ks=>by rw [gy,q5k,q44 ks];rfl
theorem qhc{l:List Str}{k x:Str}: x∈step_dedup l k↔x∈l\/x=k:=by
 by_cases h:k∈l
 ·rw [q3y h]
  exact⟨.inl,fun z=>z.elim id fun e=>e ▸ h⟩
 ·rw [q1n h];simp
theorem qag:∀(b a:List Str) (x:Str),x∈b.foldl step_dedup a↔x∈a\/x∈b
 | [],a,x=>by simp
 | k :: b,a,x=>by
  rw [u4,qag b,qhc,me]
  constructor
  ·rintro((h|h)|h)
   ·exact .inl h
   ·exact .inr (.inl h)
   ·exact .inr (.inr h)
  ·rintro(h|h|h)
   ·exact .inl (.inl h)
   ·exact .inl (.inr h)
   ·exact .inr h
theorem oneS_in{l:List Str}{x:Str}: x∈j6 l↔x∈l:=by
 unfold j6;rw [qag];simp
theorem qjq{ks:List Str}{k:Str}(h:k∈ks): ym (y0 ks) (.str k)=some (.int (ks.idxOf k:Nat)):=by
 unfold y0 ym;simp only [q44,g6,h,pd];unfold qeo;rw [gv,List.getElem?_range (p9 h)];rfl
abbrev vp(nm:List (List Nat))(rs:List Run): List Str:=j6 (rs.map fun r=>(pick nm r.2).map txt).flatten
def q5y(nm:List (List Nat))(ks:List Str)(r:Run): Run:=(r.1,sortI ((pick nm r.2).map fun n=>((ks.idxOf (txt n):Nat):Int)))
theorem qf9(nm:List (List Nat))(ks:List Str): ∀(ls:List (List Nat)),(∀n∈ls,txt n∈ks)->zo (bN 0) z7 (eOp ym (eV 1) (eV 0)) [none,some (.fz (y0 ks))] (ls.map S)=some ((ls.map fun n=>((ks.idxOf (txt n):Nat):Int)).map D.int):=by
 intro ls h;have:=zc (b:=bN 0) (f:=eOp ym (eV 1) (eV 0)) (ρ :=[none,some (.fz (y0 ks))]) (fun d=>match d with | .str x=>.int (ks.idxOf x:Nat)|_=>.non) (ds:=ls.map S) fun d hd=>by
  obtain⟨n,hn,rfl⟩:=gf.mp hd;exact⟨_,rfl,qu (x_v rfl) (x_v rfl) (qjq (h n hn))⟩
 rw [this,gj,gj];rfl
theorem qhd{nm:List (List Nat)}(hok:NmOk nm){rs:List Run}(hr:∀r∈rs,TOk nm r)(hl:rs.length<=63)(h0:rs≠[])(hk:(vp nm rs).length<=12):
  q2t [S (jn 10 (rs.map (lnR nm)))]=some (.tup [.tup ((vp nm rs).map .str),q54 (vp nm rs).length (rs.map (q5y nm (vp nm rs)))]):=by
 have hle:q36 [y0 (vp nm rs)]=some (.int ((vp nm rs).length:Nat)):=by
  unfold y0 q36;simp only [g7]
 have key:∀(qs:List Run),(∀r∈qs,r∈rs)->zo (xh 2 (za (bN 0) (za (bN 1) xg))) z7 (x5 (qa (eV 0) (qa (qh jw (qa (eL (wg yx (qa (eL (zf (jr (eV 1)) [none,some 2] (bN 0) z7 (eOp ym (eV 1) (eV 0)))) qg))) qg)) qg))) [none,none,some (.fz (y0 (vp nm rs)))] (qs.map (ki nm))=some ((qs.map (q5y nm (vp nm rs))).map runD):=by
  intro qs
  induction qs with
  | nil=>intro _;rfl
  | cons r qs ih=>
   intro hq;have h:=hr r (hq r gi);have ih:=ih fun r hr'=>hq r (gr _ hr');have hmem:∀n∈pick nm r.2,txt n∈vp nm rs:=fun n hn=>oneS_in.mpr (g1a.mpr ⟨_,gf.mpr ⟨r,hq r gi,rfl⟩,gf.mpr ⟨n,hn,rfl⟩⟩);have e2:x5 (qa (eV 0) (qa (qh jw (qa (eL (wg yx (qa (eL (zf (jr (eV 1)) [none,some 2] (bN 0) z7 (eOp ym (eV 1) (eV 0)))) qg))) qg)) qg)) [some (.fz (.int r.1)),some (.fz (.lst ((pick nm r.2).map S))),some (.fz (y0 (vp nm rs)))]=some (runD (q5y nm (vp nm rs) r)):=by
    have hp:(pick nm r.2).length<=12:=by unfold pick;rw [g7];exact h.b.len
    refine kh (qc (x_v rfl) (qc (x_call (qc (x_l (qa8 (qc (x_l (jc (ds:=(pick nm r.2).map S) (xq (x_v rfl) rfl) (by rw [g7];show _<=1000000;omega) (qf9 nm _ _ hmem))) qj) ?_)) qj) (q0k _)) qj)) (show 2<=1000000 by decide);unfold yx;simp only [q68,g6,g7];rw [gu (by omega)];rfl
   rw [gy,gy,gy];unfold zo;show Option.bind (some _) _=_;rw [g6];show Option.bind (some true) _=_;rw [g6];simp only [pd];show Option.bind (x5 (qa (eV 0) (qa (qh jw (qa (eL (wg yx (qa (eL (zf (jr (eV 1)) [none,some 2] (bN 0) z7 (eOp ym (eV 1) (eV 0)))) qg))) qg)) qg)) [some (.fz (.int r.1)),some (.fz (.lst ((pick nm r.2).map S))),some (.fz (y0 (vp nm rs)))]) _=_;rw [e2,g6,ih];rfl
 refine yr ?_;refine z8 (ji (z6 (qc (x_v rfl) qj) rfl (q9g hok hr hl h0))) ?_;refine z8 (ji (z6 (qc (x_v rfl) qj) rfl (places_eq hr hl))) ?_;refine z8 (x9 (wq (x_call (qc (x_v rfl) qj) hle) x_c (q3b _ _)) (m8 (by omega)) jz) ?_;refine z8 (x9 (wq (x_call (qc (x_v rfl) qj) (qfo _)) x_c (q3b _ _)) (m8 (by rw [g7];omega)) jz) ?_;refine z8 (q53 (jc (ds:=rs.map (ki nm)) (xq (x_v rfl) rfl) (by rw [g7];show _<=1000000;omega) (key rs fun _ h=>h))) ?_;refine q73 rfl (y_ret (kh (qc (x_call (qc (x_v rfl) qj) (?_:q4t [y0 (vp nm rs)]=some (.tup ((vp nm rs).map .str)))) (qc (kh (qc (x_call (qc (x_v rfl) qj) hle) (qc (x_call (qc (x_v rfl) qj) (q0k _)) qj)) (show 2<=1000000 by decide)) qj)) (show 2<=1000000 by decide)));unfold q4t y0;simp only [q44,m6]
structure Self(d:D)(m:Nat): Prop where
 ok:okE d d=true
 eq:eqD d d=true
 dep:q1k d<=m
theorem q45(i:Int)(m:Nat): Self (.int i) m:=⟨rfl,by show(i==i)=true;simp,p0 _⟩
theorem qfa(x:Str)(m:Nat): Self (.str x) m:=⟨rfl,by show(x==x)=true;simp,p0 _⟩
theorem q6o{m:Nat}: ∀ds:List D,(∀d∈ds,Self d m)->v5 ds ds=true/\eqL ds ds=true/\yj ds<=m
 | [],_=>⟨by simp [v5],by simp [eqL],p0 _⟩
 | d :: ds,h=>by
  obtain⟨a,b,c⟩:=q6o ds fun e he=>h e (gr _ he);have s:=h d gi;refine⟨by simp only [v5,s.ok,a,Bool.and_true],by simp only [eqL,s.eq,b,Bool.and_true],?_⟩;simp only [yj];have:=s.dep;omega
theorem q21{m:Nat}(ds:List D)(h:∀d∈ds,Self d m): Self (.tup ds) (m+1):=by
 obtain⟨a,b,c⟩:=q6o ds h;exact⟨by simp only [okE];exact a,by simp only [eqD];exact b,by simp only [q1k];omega⟩
theorem Self.up{d:D}{m n:Nat}(h:Self d m)(e:m<=n): Self d n:=⟨h.ok,h.eq,ma h.dep e⟩
theorem q46{m:Nat}{x y:D}(h1:Self x m)(h2:Self y m): Self (.tup [x,y]) (m+1):=q21 _ fun d hd=>by
 simp only [me,List.mem_nil_iff,or_false] at hd;rcases hd with rfl|rfl
 ·exact h1
 ·exact h2
theorem qdn(nm:List (List Nat))(w:Nat)(rs:List Run): Self (.tup [TS nm,q54 w rs]) 5:=
 q46 ((q21 (m:=0) _ fun d hd=>by obtain⟨n,_,rfl⟩:=gf.mp hd;exact qfa _ _).up (by decide)) (q46 (m:=3) (q45 _ _) (q21 (m:=2) _ fun d hd=>by
  obtain⟨r,_,rfl⟩:=gf.mp hd;exact q46 (m:=1) (q45 _ _) (q21 (m:=0) _ fun d hd=>by obtain⟨x,_,rfl⟩:=gf.mp hd;exact q45 _ _)))
theorem eq_self{ds:List D}{m:Nat}(s:Self (.tup ds) m)(hm:m<=60): oEq (.tup ds) (.tup ds)=some (.bl true):=by
 obtain⟨a,b,c⟩:=s;simp only [okE] at a;simp only [eqD] at b;simp only [q1k] at c;show(q7g _ _).or (if v5 _ _&&decide (yj _<=60) then some (D.bl (eqL _ _)) else none)=_;rw [a,b,m9 (by omega)]
 rfl
theorem q92:∀(l:List Int) (a b:Int),l.Pairwise (· < ·)->(∀x∈l,a<=x/\x<b)->(l.length:Int)<=max 0 (b-a)
 | [],a,b,_,_=>by simp;omega
 | x :: l,a,b,h,hm=>by
  cases h with
  | cons h1 h2=>
   have hx:=hm x gi;have ih:=q92 l (x+1) b h2 fun y hy=>⟨h1 y hy,(hm y (gr _ hy)).2⟩
   rw [gz];omega
theorem qhe{nm:List (List Nat)}{w:Nat}(hn:nm.length=w)(hw:w<=12){r:Run}(h:RunOk w 1000000000000 r): TOk nm r:=by
 have hl:=q92 r.2 0 w h.rise h.mem;exact⟨h.m1,h.m2,⟨by omega,fun x hx=>by rw [hn];exact h.mem x hx⟩,h.rise.imp fun a=>by omega⟩
abbrev vq(w:Nat): List Int:=(List.range w).map fun i:Nat=>(0:Int)+i
theorem qkl(w:Nat): qp 0 w=(vq w).map D.int:=by unfold qp vq;rw [gj];rfl
theorem qhf{nm:List (List Nat)}{w:Nat}(hn:nm.length=w)(hw:w<=12): TOk nm (7,vq w):=by
 refine⟨(show(1:Int)<=7 by decide),(show(7:Int)<=1000000000000 by decide),⟨by simp;omega,fun x hx=>?_⟩,?_⟩
 ·obtain⟨i,hi,rfl⟩:=gf.mp hx
  have:=n0.mp hi;omega
 ·show((List.range w).map _).Nodup
  rw [tw,um];exact List.Pairwise.imp (fun {a b} h e=>h (by omega)) (List.nodup_range (n:=w))
theorem qfb(nm:List (List Nat)): pick nm (vq nm.length)=nm:=by
 unfold pick vq;rw [gj];refine Eq.trans (mm fun i _=>?_) (map_getD [] nm);show nm.getD ((0:Int)+i).toNat []=_
 congr 1
 omega
theorem qfc{nm:List (List Nat)}(hok:NmOk nm){rs:List Run}(hr:∀r∈rs,TOk nm r): vp nm ((7,vq nm.length) :: rs)=nm.map txt:=by
 show j6 (List.map _ (_ :: _)).flatten=_;rw [gy,mv];show j6 ((pick nm (vq nm.length)).map txt++_)=_;rw [qfb];refine qf8 (List.Pairwise.map txt (fun a b h z=>h (q1d z)) hok.nd) fun x hx=>?_;obtain⟨l,hl,hx⟩:=g1a.mp hx;obtain⟨r,h,rfl⟩:=gf.mp hl;obtain⟨n,hn,rfl⟩:=gf.mp hx;exact gf.mpr ⟨n,q1z (hr r h).b hn,rfl⟩
theorem qjr{nm:List (List Nat)}(hok:NmOk nm){i:Nat}(hi:i<nm.length): (nm.map txt).idxOf (txt (nm.getD i []))=i:=by
 have hm:txt (nm.getD i [])∈nm.map txt:=gf.mpr ⟨_,getD_mem hi,rfl⟩;have hl:=p9 hm;have e:=List.getElem_idxOf hl;rw [List.getElem_map] at e;have e2:=q1d e;rw [g7] at hl;refine getD_inj hok.nd hl hi ?_;rw [n8,m7 hl];exact e2
theorem yw{nm:List (List Nat)}(hok:NmOk nm){r:Run}(h:BOk nm r.2)(hs:r.2.Pairwise (· < ·)): q5y nm (nm.map txt) r=r:=by
 unfold q5y;have hth:(pick nm r.2).map (fun n=>(((nm.map txt).idxOf (txt n):Nat):Int))=r.2:=by
  unfold pick;rw [gj]
  conv=>rhs;rw [<- List.map_id r.2]
  refine mm fun x hx=>?_;have hm:=h.mem x hx;show(((nm.map txt).idxOf (txt (nm.getD x.toNat [])):Nat):Int)=x;rw [qjr hok (by omega)];omega
 letI:Lam:=⟨[]⟩
 rw [hth, <- q7z (List.Perm.refl r.2) (hs.imp fun a=>by omega)]
theorem qah{nm:List (List Nat)}(s1 s2 s3:Option B)(rs:List Run)(hr:∀r∈rs,TOk nm r)(x4:Option B): ∀(n k:Nat) (acc:List Run) (b6 b7:Option B),k+n=rs.length->rs.length<=63->acc.length=k->(∀r∈acc,ROk nm r) ->
  ∃(ps:List Run) (b6' b7':Option B),runFor (bN 6) q1u (qp (k:Int) n) [s1,s2,s3,some (.fz (.tup (rs.map runD))),x4,some (.ow (acc.map pairD)),b6,b7,none,none]=some (.nx,[s1,s2,s3,some (.fz (.tup (rs.map runD))),x4,some (.ow (ps.map pairD)),b6',b7',none,none])/\ps.length=rs.length/\∀r∈ps,ROk nm r
 | 0,k,acc,b6,b7,h1,_,h2,ha=>⟨acc,b6,b7,by simp [qp,runFor],by omega,ha⟩
 | n + 1,k,acc,b6,b7,h1,h63,h2,ha=>by
  have hk:k<rs.length:=by omega
  have ht:=hr _ (g19 hk);have hix:oIx (.tup (rs.map runD)) (.int (k:Int))=some (runD rs[k]):=by rw [qez,vc,gv,m7 hk];rfl
  have body:∃(m:Int) (b7':Option B),q1u [s1,s2,s3,some (.fz (.tup (rs.map runD))),x4,some (.ow (acc.map pairD)),some (.fz (.int (k:Int))),b7,none,none]=some (.nx,[s1,s2,s3,some (.fz (.tup (rs.map runD))),x4,some (.ow ((acc++[(m,rs[k].2)]).map pairD)),some (.fz (.int (k:Int))),b7',none,none])/\0<=m/\m<10 ^ 16:=by
   have hm1:=ht.m1;have hm2:=ht.m2;have app:∀m:Int,q0d 5 (x5 (qa (eOp oIx (eOp oIx (eV 3) (eV 6)) (eC (.int 1))) (qa (eV 7) qg))) [s1,s2,s3,some (.fz (.tup (rs.map runD))),x4,some (.ow (acc.map pairD)),some (.fz (.int (k:Int))),some (.fz (.int m)),none,none]=some (.nx,[s1,s2,s3,some (.fz (.tup (rs.map runD))),x4,some (.ow ((acc++[(m,rs[k].2)]).map pairD)),some (.fz (.int (k:Int))),some (.fz (.int m)),none,none]):=fun m=>by
    rw [nu];exact q1x rfl (kh (qc (qu (qu (x_v rfl) (x_v rfl) hix) x_c (y:=.int 1) (z:=TI rs[k].2) rfl) (qc (x_v rfl) qj)) (show 2<=1000000 by decide)) (by rw [g7];show _<1000000;omega)
   have set7:zp 7 (eOp oIx (eOp oIx (eV 3) (eV 6)) (eC (.int 0))) [s1,s2,s3,some (.fz (.tup (rs.map runD))),x4,some (.ow (acc.map pairD)),some (.fz (.int (k:Int))),b7,none,none]=some (.nx,[s1,s2,s3,some (.fz (.tup (rs.map runD))),x4,some (.ow (acc.map pairD)),some (.fz (.int (k:Int))),some (.fz (.int rs[k].1)),none,none]):=
    ji (qu (qu (x_v rfl) (x_v rfl) hix) x_c (y:=.int 0) (z:=.int rs[k].1) rfl)
   by_cases h3:k%3=1
   ·have e2:k%2=0\/k%2=1:=by omega
    have two:∃m:Int,atI [D.int 0,D.int (rs[k].1*1000)] ((k%2:Nat):Int)=some (.int m)/\0<=m/\m<10 ^ 16:=by
     rcases e2 with e|e <;> rw [e,vc]
     ·exact⟨0,rfl,by decide,by decide⟩
     ·exact⟨_,rfl,by omega,by omega⟩
    obtain⟨m,em,h4,h5⟩:=two;refine⟨m,_,q0s set7 (q0s (qd9 (wq (qu (x_v rfl) x_c (x3 k 3 (by decide))) x_c (k7 _ _)) (m9 (by omega)) (ji (qu (x_l (q72 (qc x_c (qc (qu (x_v rfl) x_c (wt _ _ (by decide))) qj)) (show 2<=1000000 by decide))) (qu (x_v rfl) x_c (x3 k 2 (by decide))) ((qey _ _).trans em)))) (app m)),h4,h5⟩
   ·exact⟨rs[k].1,_,q0s set7 (q0s (x9 (wq (qu (x_v rfl) x_c (x3 k 3 (by decide))) x_c (k7 _ _)) (m8 (by omega)) jz) (app _)),by omega,by omega⟩
  obtain⟨m,b7',eb,h4,h5⟩:=body;obtain⟨ps,c6,c7,er,el,ho⟩:=qah s1 s2 s3 rs hr x4 n (k+1) (acc++[(m,rs[k].2)]) (some (.fz (.int (k:Int)))) b7' (by omega) h63 (by simp;omega) (fun r hr'=>by
   rcases nh.mp hr' with hr'|hr'
   ·exact ha r hr'
   ·rw [nj.mp hr'];exact⟨h4,h5,ht.b⟩)
  refine⟨ps,c6,c7,?_,el,ho⟩;rw [q11,q0r (b:=bN 6) rfl eb];exact er
theorem qfd(ns:List Int)(hlen:ns.length<=63): qbi [.lst (ns.map .int)]=some (.bl true):=by
 obtain⟨w,rs,hp,hw,hl,hr⟩:=q9f ns hlen 12 (by decide);obtain⟨nm,hn,hnl,hok⟩:=q8y ns w hw;have ht:∀r∈rs,TOk nm r:=fun r h=>qhe hnl hw (hr r h);have hR:∀r∈rs,ROk nm r:=fun r h=>(ht r h).r;have htw:∀r∈(7,vq w) :: rs,TOk nm r:=fun r h=>by
  rcases me.mp h with rfl|h
  ·exact qhf hnl hw
  ·exact ht r h
 have hRw:∀r∈(7,vq w) :: rs,ROk nm r:=fun r h=>(htw r h).r;obtain⟨ps,b6,b7,el,epl,hps⟩:=qah (nm:=nm) (some (.fz (.lst (ns.map .int)))) (some (.fz (q54 w rs))) (some (.fz (.int (w:Int)))) rs ht (some (.fz (TS nm))) rs.length 0 [] none none (by omega) (by omega) rfl (by simp);have tup1:∀l:List D,l.length<=63->zk (.tup [.tup [.int 7,.tup (qp 0 w)]]) (.tup l)=some (.tup (.tup [.int 7,.tup (qp 0 w)] :: l)):=fun l h=>by
  rw [qd7 _ _ (by simp;omega)];rfl
 have rng:∀(f:FE) (ρ : Rho),f ρ = some (.int (w:Int))->q6z f ρ = some (.tup (qp 0 w)):=fun f ρ h=>by
  unfold q6z;rw [h,g6];simp only [];rw [gu (by simp;omega)];rfl
 have ew:(.tup [.int 7,.tup (qp 0 w)] :: rs.map runD)=((7,vq w) :: rs).map runD:=by rw [qkl];rfl
 have hks:vp nm ((7,vq w) :: rs)=nm.map txt:=by rw [<- hnl];exact qfc hok ht
 have hread:=qhd hok htw (by rw [gz];omega) (by simp) (by rw [hks,g7];omega);rw [hks,g7,hnl] at hread;have hout:((7,vq w) :: rs).map (q5y nm (nm.map txt))=(7,vq w) :: rs:=by
  conv=>rhs;rw [<- List.map_id ((7,vq w) :: rs)]
  refine mm fun r h=>?_;refine yw hok (htw r h).b ?_;rcases me.mp h with rfl|h
  ·show((List.range w).map _).Pairwise _
   rw [um];exact List.Pairwise.imp (fun {a b} h=>by omega) (List.pairwise_lt_range (n:=w))
  ·exact(hr r h).rise
 rw [hout,gj] at hread;refine yr ?_;refine z8 (ji (z6 (qc (x_v rfl) (qc x_c qj)) rfl hp)) ?_;refine z8 (qji (x_v rfl) rfl) ?_;refine z8 (ji (x_call (qc (z6 (qc (x_v rfl) (qc x_c (qc (x_v rfl) qj))) rfl hn) qj) (q0k _))) ?_;refine z8 (x9 (yp (q2v (z6 (qc (z6 (qc (x_v rfl) (qc (x_v rfl) qj)) rfl (q8z hok hR (by omega))) (qc (x_l (jc (ds:=rs.map runD) (xq (x_v rfl) rfl) (by rw [g7];show _<=1000000;omega) (q6m hok hR))) qj)) rfl (q2y (q1f hok hR) (by rw [g7];omega) rfl)) rfl)) rfl jz) ?_;refine z8 (q53 (q72 qj (by decide))) ?_;refine z8 (qfm (ds:=qp ((0:Nat):Int) rs.length) ?_ el) ?_
 ·exact q01 _ _ (rs.length:Int) (qc (x_call (qc (x_v rfl) qj) ((qfn _).trans (by rw [g7]))) qj) (by omega) (by omega)
 refine q73 rfl ?_;refine z8 (x9 (yp (q2v (z6 (qc (z6 (qc (x_v rfl) (qc (x_call (qc (x_v rfl) qj) (q0k _)) qj)) rfl (qdi hok hps (by omega))) (qc (x_l (jc (ds:=ps.map pairD) (xq (x_v rfl) rfl) (by rw [g7];show _<=1000000;omega) (qdj hok hps))) qj)) rfl (q2y (q1f hok hps) (by rw [g7];omega) rfl)) rfl)) rfl jz) ?_;refine z8 (ji (d:=q54 w ((7,vq w) :: rs)) ?_) ?_
 ·refine kh (qc (x_v rfl) (qc (qu (kh (qc (kh (qc x_c (qc (rng _ _ (x_v rfl)) qj)) (show 2<=1000000 by decide)) qj) (show 1<=1000000 by decide)) (x_v rfl) ?_) qj)) (show 2<=1000000 by decide)
  rw [tup1 _ (by rw [g7];omega),ew]
 refine z8 (ji (z6 (qc (x_v rfl) (qc (x_v rfl) qj)) rfl (q8z hok hRw (by rw [gz];omega)))) ?_;refine z8 (x9 (yp (q2v (z6 (qc (x_v rfl) (qc (x_l (jc (ds:=((7,vq w) :: rs).map runD) (xq (qu (x_v rfl) x_c (y:=.int 1) rfl) rfl) (by rw [g7,gz];show _<=1000000;omega) (q6m hok hRw))) qj)) rfl (q2y (q1f hok hRw) (by rw [g7,gz];omega) rfl)) rfl)) rfl jz) ?_;exact y_ret (qu (z6 (qc (x_v rfl) qj) rfl hread) (kh (qc (x_v rfl) (qc (x_v rfl) qj)) (show 2<=1000000 by decide)) (eq_self (qdn nm w _) (by decide)))
end My
namespace My
open PySem PySem.Spec PyProof.Rows L2 DL
open PySem.W (nsIn fnOf keepIn codeIn mg_of subIn mg_none_of findIn plainGet)
theorem ln1{s:Shared}{fd:FuncData}{ps:List Str}(h:∀a0,BindsTo s fd ⟨[a0],[]⟩ (ps.zip ([a0]++[]))): ∀us:List Value,(us++[]).length=1->BindsTo s fd ⟨us,[]⟩ (ps.zip (us++[]))
 | [a0],_=>h a0
theorem ln2{s:Shared}{fd:FuncData}{ps:List Str}(h:∀a0 a1,BindsTo s fd ⟨[a0,a1],[]⟩ (ps.zip ([a0,a1]++[]))): ∀us:List Value,(us++[]).length=2->BindsTo s fd ⟨us,[]⟩ (ps.zip (us++[]))
 | [a0,a1],_=>h a0 a1
theorem ln3{s:Shared}{fd:FuncData}{ps:List Str}(h:∀a0 a1 a2,BindsTo s fd ⟨[a0,a1,a2],[]⟩ (ps.zip ([a0,a1,a2]++[]))): ∀us:List Value,(us++[]).length=3->BindsTo s fd ⟨us,[]⟩ (ps.zip (us++[]))
 | [a0,a1,a2],_=>h a0 a1 a2
theorem all_mk[Lam]{l:PySem.W.OpenLaw}{w:World}{K:Frag}{h:Heap}{mg:Str->Option Value}{fa:Addr}(X:K.In h)(G:h.Ns mainGlobals mg)(hfa:mg "law" = some (.ref fa))(hm:∀ns:List Int,ns.length<=63->qbi [.lst (ns.map .int)]=some (.bl true))
  {fa_11:Addr} {fd_law_set:FuncData} (x_law_set:nsIn K mainGlobals "_law_set" = some (some (.ref fa_11))) (F_law_set:Fun2 K "_law_set" "_law_set" y9 .none fa_11 fd_law_set)
  {fa_9:Addr} {fd_law_power:FuncData} (x_law_power:nsIn K mainGlobals "_law_power" = some (some (.ref fa_9))) (F_law_power:Fun2 K "_law_power" "_law_power" xt .none fa_9 fd_law_power)
  {fa_10:Addr} {fd_law_run:FuncData} (x_law_run:nsIn K mainGlobals "_law_run" = some (some (.ref fa_10))) (F_law_run:Fun2 K "_law_run" "_law_run" ya .none fa_10 fd_law_run)
  {fa_6:Addr} {fd_law_mixed:FuncData} (x_law_mixed:nsIn K mainGlobals "_law_mixed" = some (some (.ref fa_6))) (F_law_mixed:Fun2 K "_law_mixed" "_law_mixed" xu .none fa_6 fd_law_mixed)
  {fa_8:Addr} {fd_law_pile:FuncData} (x_law_pile:nsIn K mainGlobals "_law_pile" = some (some (.ref fa_8))) (F_law_pile:Fun2 K "_law_pile" "_law_pile" vh .none fa_8 fd_law_pile)
  {fa_12:Addr} {fd_line_of:FuncData} (x_line_of:nsIn K mainGlobals "line_of" = some (some (.ref fa_12))) (F_line_of:Fun2 K "line_of" "line_of" yb .none fa_12 fd_line_of)
  {fa_18:Addr} {fd_shown:FuncData} (x_shown:nsIn K mainGlobals "shown" = some (some (.ref fa_18))) (F_shown:Fun2 K "shown" "shown" wz .none fa_18 fd_shown)
  {fa_7:Addr} {fd_law_names:FuncData} (x_law_names:nsIn K mainGlobals "_law_names" = some (some (.ref fa_7))) (F_law_names:Fun2 K "_law_names" "_law_names" xw .none fa_7 fd_law_names)
  {fa_4:Addr} {fd_law_is:FuncData} (x_law_is:nsIn K mainGlobals "_law_is" = some (some (.ref fa_4))) (F_law_is:Fun2 K "_law_is" "_law_is" yz .none fa_4 fd_law_is)
  {fa_2:Addr} {fd_is_many:FuncData} (x_is_many:nsIn K mainGlobals "is_many" = some (some (.ref fa_2))) (F_is_many:Fun2 K "is_many" "is_many" yc .none fa_2 fd_is_many)
  {fa_1:Addr} {fd_is_head:FuncData} (x_is_head:nsIn K mainGlobals "is_head" = some (some (.ref fa_1))) (F_is_head:Fun2 K "is_head" "is_head" ye .none fa_1 fd_is_head)
  {fa_3:Addr} {fd_is_name:FuncData} (x_is_name:nsIn K mainGlobals "is_name" = some (some (.ref fa_3))) (F_is_name:Fun2 K "is_name" "is_name" yf .none fa_3 fd_is_name)
  {fa_0:Addr} {fd_are_names:FuncData} (x_are_names:nsIn K mainGlobals "are_names" = some (some (.ref fa_0))) (F_are_names:Fun2 K "are_names" "are_names" xx .none fa_0 fd_are_names)
  {fa_13:Addr} {fd_line_read:FuncData} (x_line_read:nsIn K mainGlobals "line_read" = some (some (.ref fa_13))) (F_line_read:Fun2 K "line_read" "line_read" xy .none fa_13 fd_line_read)
  {fa_14:Addr} {fd_lines_of:FuncData} (x_lines_of:nsIn K mainGlobals "lines_of" = some (some (.ref fa_14))) (F_lines_of:Fun2 K "lines_of" "lines_of" vi .none fa_14 fd_lines_of)
  {fa_16:Addr} {fd_places_by_name:FuncData} (x_places_by_name:nsIn K mainGlobals "places_by_name" = some (some (.ref fa_16))) (F_places_by_name:Fun2 K "places_by_name" "places_by_name" j7 .none fa_16 fd_places_by_name)
  {fa_17:Addr} {fd_read:FuncData} (x_read:nsIn K mainGlobals "read" = some (some (.ref fa_17))) (F_read:Fun2 K "read" "read" q1b .none fa_17 fd_read)
  {fa_15:Addr} {fd_listed:FuncData} (x_listed:nsIn K mainGlobals "listed" = some (some (.ref fa_15))) (F_listed:Fun2 K "listed" "listed" k6 .none fa_15 fd_listed)
  {fa_5:Addr} {fd_law_line:FuncData} (x_law_line:nsIn K mainGlobals "_law_line" = some (some (.ref fa_5))) (F_law_line:Fun2 K "_law_line" "_law_line" vj .none fa_5 fd_law_line)
  {fa_law:Addr} {fd_law:FuncData} (x_law:nsIn K mainGlobals "law" = some (some (.ref fa_law))) (F_law:Fun2 K "law" "law" q3a .none fa_law fd_law)
  (z_range:nsIn K mainGlobals "range" = some none)
  (z_tuple:nsIn K mainGlobals "tuple" = some none)
  (z_len:nsIn K mainGlobals "len" = some none)
  (z_max:nsIn K mainGlobals "max" = some none)
  (z_min:nsIn K mainGlobals "min" = some none)
  (z_isinstance:nsIn K mainGlobals "isinstance" = some none)
  (z_str:nsIn K mainGlobals "str" = some none)
  (z_int:nsIn K mainGlobals "int" = some none)
  (z_all:nsIn K mainGlobals "all" = some none)
  (z_set:nsIn K mainGlobals "set" = some none)
  (z_sorted:nsIn K mainGlobals "sorted" = some none)
  {tk_FIGURES:Tok} (y_FIGURES:nsIn K mainGlobals "FIGURES" = some (some (.str "0123456789" tk_FIGURES)))
  {tk_SMALL_LETTERS:Tok} (y_SMALL_LETTERS:nsIn K mainGlobals "SMALL_LETTERS" = some (some (.str "abcdefghijklmnopqrstuvwxyz" tk_SMALL_LETTERS)))
  {tk_MOST_MANY:Tok} (y_MOST_MANY:nsIn K mainGlobals "MOST_MANY" = some (some (.int 1000000000000 tk_MOST_MANY)))
  {tk_LONGEST_NAME:Tok} (y_LONGEST_NAME:nsIn K mainGlobals "LONGEST_NAME" = some (some (.int 8 tk_LONGEST_NAME)))
  {tk_MOST_WARES:Tok} (y_MOST_WARES:nsIn K mainGlobals "MOST_WARES" = some (some (.int 12 tk_MOST_WARES)))
  {tk_MOST_RUNS:Tok} (y_MOST_RUNS:nsIn K mainGlobals "MOST_RUNS" = some (some (.int 200 tk_MOST_RUNS)))
  : ∃fd:FuncData,(∀(s:Shared) (v:Value),BindsTo s fd ⟨[v],[]⟩ [("_law_script",v)])/\∀base:Heap,K.In base->base.Ns mainGlobals mg->FnOk l.prog w K mg base CX0 6 fa fd ["_law_script"] (q6y K):=by
 have k_11:=F_law_set.kp;have k_9:=F_law_power.kp;have k_10:=F_law_run.kp;have k_6:=F_law_mixed.kp;have k_8:=F_law_pile.kp;have k_12:=F_line_of.kp;have k_18:=F_shown.kp;have k_7:=F_law_names.kp;have k_4:=F_law_is.kp;have k_2:=F_is_many.kp;have k_1:=F_is_head.kp;have k_3:=F_is_name.kp;have k_0:=F_are_names.kp;have k_13:=F_line_read.kp;have k_14:=F_lines_of.kp;have k_16:=F_places_by_name.kp;have k_17:=F_read.kp;have k_15:=F_listed.kp;have k_5:=F_law_line.kp;have k_law:=F_law.kp;have n_range:=mg_none_of X G z_range;have n_tuple:=mg_none_of X G z_tuple;have n_len:=mg_none_of X G z_len;have n_max:=mg_none_of X G z_max;have n_min:=mg_none_of X G z_min;have n_isinstance:=mg_none_of X G z_isinstance;have n_str:=mg_none_of X G z_str;have n_int:=mg_none_of X G z_int;have n_all:=mg_none_of X G z_all;have n_set:=mg_none_of X G z_set;have n_sorted:=mg_none_of X G z_sorted;have gs_FIGURES:∃t,mg "FIGURES" = some (.str "0123456789" t):=⟨_,mg_of X G y_FIGURES⟩
 have gs_SMALL_LETTERS:∃t,mg "SMALL_LETTERS" = some (.str "abcdefghijklmnopqrstuvwxyz" t):=⟨_,mg_of X G y_SMALL_LETTERS⟩
 have g_MOST_MANY:∃t,mg "MOST_MANY" = some (.int 1000000000000 t):=⟨_,mg_of X G y_MOST_MANY⟩
 have g_LONGEST_NAME:∃t,mg "LONGEST_NAME" = some (.int 8 t):=⟨_,mg_of X G y_LONGEST_NAME⟩
 have g_MOST_WARES:∃t,mg "MOST_WARES" = some (.int 12 t):=⟨_,mg_of X G y_MOST_WARES⟩
 have g_MOST_RUNS:∃t,mg "MOST_RUNS" = some (.int 200 t):=⟨_,mg_of X G y_MOST_RUNS⟩
 have e:=hfa.symm.trans (mg_of X G x_law);cases e;have b_11:Binds K _ ["_law_mark"] []:=F_law_set.bindsTo (P:=fun fd=>Binds K fd ["_law_mark"] []) fun _ _ _ _ _ _ s us hk hl=>ln1 (fun _=>.of_eq rfl) us hl;have b_9:Binds K _ ["_law_many"] []:=F_law_power.bindsTo (P:=fun fd=>Binds K fd ["_law_many"] []) fun _ _ _ _ _ _ s us hk hl=>ln1 (fun _=>.of_eq rfl) us hl;have b_10:Binds K _ ["_law_number","_law_wares","_law_most"] []:=F_law_run.bindsTo (P:=fun fd=>Binds K fd ["_law_number","_law_wares","_law_most"] []) fun _ _ _ _ _ _ s us hk hl=>ln3 (fun _ _ _=>.of_eq rfl) us hl;have b_6:Binds K _ ["_law_script","_law_k"] []:=F_law_mixed.bindsTo (P:=fun fd=>Binds K fd ["_law_script","_law_k"] []) fun _ _ _ _ _ _ s us hk hl=>ln2 (fun _ _=>.of_eq rfl) us hl;have b_8:Binds K _ ["_law_script","_law_most_wares"] []:=F_law_pile.bindsTo (P:=fun fd=>Binds K fd ["_law_script","_law_most_wares"] []) fun _ _ _ _ _ _ s us hk hl=>ln2 (fun _ _=>.of_eq rfl) us hl;have b_12:Binds K _ ["names","number","some"] []:=F_line_of.bindsTo (P:=fun fd=>Binds K fd ["names","number","some"] []) fun _ _ _ _ _ _ s us hk hl=>ln3 (fun _ _ _=>.of_eq rfl) us hl;have b_18:Binds K _ ["names","pile"] []:=F_shown.bindsTo (P:=fun fd=>Binds K fd ["names","pile"] []) fun _ _ _ _ _ _ s us hk hl=>ln2 (fun _ _=>.of_eq rfl) us hl;have b_7:Binds K _ ["_law_script","_law_letters","_law_many"] []:=F_law_names.bindsTo (P:=fun fd=>Binds K fd ["_law_script","_law_letters","_law_many"] []) fun _ _ _ _ _ _ s us hk hl=>ln3 (fun _ _ _=>.of_eq rfl) us hl;have b_4:Binds K _ ["_law_found","_law_lines"] []:=F_law_is.bindsTo (P:=fun fd=>Binds K fd ["_law_found","_law_lines"] []) fun _ _ _ _ _ _ s us hk hl=>ln2 (fun _ _=>.of_eq rfl) us hl;have b_2:Binds K _ ["word"] []:=F_is_many.bindsTo (P:=fun fd=>Binds K fd ["word"] []) fun _ _ _ _ _ _ s us hk hl=>ln1 (fun _=>.of_eq rfl) us hl;have b_1:Binds K _ ["word"] []:=F_is_head.bindsTo (P:=fun fd=>Binds K fd ["word"] []) fun _ _ _ _ _ _ s us hk hl=>ln1 (fun _=>.of_eq rfl) us hl;have b_3:Binds K _ ["word"] []:=F_is_name.bindsTo (P:=fun fd=>Binds K fd ["word"] []) fun _ _ _ _ _ _ s us hk hl=>ln1 (fun _=>.of_eq rfl) us hl;have b_0:Binds K _ ["words"] []:=F_are_names.bindsTo (P:=fun fd=>Binds K fd ["words"] []) fun _ _ _ _ _ _ s us hk hl=>ln1 (fun _=>.of_eq rfl) us hl;have b_13:Binds K _ ["line"] []:=F_line_read.bindsTo (P:=fun fd=>Binds K fd ["line"] []) fun _ _ _ _ _ _ s us hk hl=>ln1 (fun _=>.of_eq rfl) us hl;have b_14:Binds K _ ["text"] []:=F_lines_of.bindsTo (P:=fun fd=>Binds K fd ["text"] []) fun _ _ _ _ _ _ s us hk hl=>ln1 (fun _=>.of_eq rfl) us hl;have b_16:Binds K _ ["lines"] []:=F_places_by_name.bindsTo (P:=fun fd=>Binds K fd ["lines"] []) fun _ _ _ _ _ _ s us hk hl=>ln1 (fun _=>.of_eq rfl) us hl;have b_17:Binds K _ ["text"] []:=F_read.bindsTo (P:=fun fd=>Binds K fd ["text"] []) fun _ _ _ _ _ _ s us hk hl=>ln1 (fun _=>.of_eq rfl) us hl;have b_15:Binds K _ ["names","pairs"] []:=F_listed.bindsTo (P:=fun fd=>Binds K fd ["names","pairs"] []) fun _ _ _ _ _ _ s us hk hl=>ln2 (fun _ _=>.of_eq rfl) us hl;have b_5:Binds K _ ["_law_number","_law_names_here","_law_some"] []:=F_law_line.bindsTo (P:=fun fd=>Binds K fd ["_law_number","_law_names_here","_law_some"] []) fun _ _ _ _ _ _ s us hk hl=>ln3 (fun _ _ _=>.of_eq rfl) us hl;refine⟨_,F_law.bindsTo (P:=fun fd=>∀(s:Shared) (v:Value),BindsTo s fd ⟨[v],[]⟩ [("_law_script",v)]) (fun _ _ _ _ _ _ s v=>.of_eq rfl),fun base _ _=>?_⟩;have o_11:=qb1 (P:=l.prog) (w:=w) (mg:=mg) (base:=base) F_law_set n_range n_tuple;have c_11:=Cal.mk o_11 (mg_of X G x_law_set) k_11;have o_9:=q8a (P:=l.prog) (w:=w) (mg:=mg) (base:=base) F_law_power;have c_9:=Cal.mk o_9 (mg_of X G x_law_power) k_9;have o_10:=qb4 (P:=l.prog) (w:=w) (mg:=mg) (base:=base) F_law_run c_11 b_11 c_9 b_9;have c_10:=Cal.mk o_10 (mg_of X G x_law_run) k_10;have o_6:=q8c (P:=l.prog) (w:=w) (mg:=mg) (base:=base) F_law_mixed n_len;have c_6:=Cal.mk o_6 (mg_of X G x_law_mixed) k_6;have o_8:=q98 (P:=l.prog) (w:=w) (mg:=mg) (base:=base) F_law_pile c_10 b_10 c_6 b_6 n_range n_len n_tuple;have c_8:=Cal.mk o_8 (mg_of X G x_law_pile) k_8;have o_12:=qb7 (P:=l.prog) (w:=w) (mg:=mg) (base:=base) F_line_of;have c_12:=Cal.mk o_12 (mg_of X G x_line_of) k_12;have o_18:=qer (P:=l.prog) (w:=w) (mg:=mg) (base:=base) F_shown c_12 b_12;have c_18:=Cal.mk o_18 (mg_of X G x_shown) k_18;have o_7:=q8g (P:=l.prog) (w:=w) (mg:=mg) (base:=base) F_law_names c_6 b_6 n_range n_max n_min;have c_7:=Cal.mk o_7 (mg_of X G x_law_names) k_7;have o_4:=qd0 (P:=l.prog) (w:=w) (mg:=mg) (base:=base) F_law_is n_isinstance n_str;have c_4:=Cal.mk o_4 (mg_of X G x_law_is) k_4;have o_2:=qba (P:=l.prog) (w:=w) (mg:=mg) (base:=base) F_is_many n_int n_len n_all n_str g_MOST_MANY gs_FIGURES;have c_2:=Cal.mk o_2 (mg_of X G x_is_many) k_2;have o_1:=qbd (P:=l.prog) (w:=w) (mg:=mg) (base:=base) F_is_head c_2 b_2;have c_1:=Cal.mk o_1 (mg_of X G x_is_head) k_1;have o_3:=qbg (P:=l.prog) (w:=w) (mg:=mg) (base:=base) F_is_name n_all n_len g_LONGEST_NAME gs_SMALL_LETTERS;have c_3:=Cal.mk o_3 (mg_of X G x_is_name) k_3;have o_0:=q8l (P:=l.prog) (w:=w) (mg:=mg) (base:=base) F_are_names c_3 b_3 n_all n_len n_set;have c_0:=Cal.mk o_0 (mg_of X G x_are_names) k_0;have o_13:=q8n (P:=l.prog) (w:=w) (mg:=mg) (base:=base) F_line_read c_1 b_1 c_0 b_0 n_int;have c_13:=Cal.mk o_13 (mg_of X G x_line_read) k_13;have o_14:=q9b (P:=l.prog) (w:=w) (mg:=mg) (base:=base) F_lines_of c_13 b_13 n_isinstance n_str;have c_14:=Cal.mk o_14 (mg_of X G x_lines_of) k_14;have o_16:=q3e (P:=l.prog) (w:=w) (mg:=mg) (base:=base) F_places_by_name n_len;have c_16:=Cal.mk o_16 (mg_of X G x_places_by_name) k_16;have o_17:=qgu (P:=l.prog) (w:=w) (mg:=mg) (base:=base) F_read c_14 b_14 c_16 b_16 n_len n_tuple n_sorted g_MOST_WARES g_MOST_RUNS;have c_17:=Cal.mk o_17 (mg_of X G x_read) k_17;have o_15:=qd4 (P:=l.prog) (w:=w) (mg:=mg) (base:=base) F_listed c_12 b_12;have c_15:=Cal.mk o_15 (mg_of X G x_listed) k_15;have o_5:=q9e (P:=l.prog) (w:=w) (mg:=mg) (base:=base) F_law_line n_str;have c_5:=Cal.mk o_5 (mg_of X G x_law_line) k_5;exact qj0 (qjc (P:=l.prog) (w:=w) (mg:=mg) (base:=base) F_law c_8 b_8 c_18 b_18 c_7 b_7 c_4 b_4 c_17 b_17 c_15 b_15 c_5 b_5 n_tuple n_range n_len) hm
end My
namespace PySem.W.Fast
theorem tw6288899130775228 : True := trivial
theorem tw7928117215562113411 : True := trivial
theorem tw9445284091233607422 : True := trivial
theorem tw7795474458304187432 : True := trivial
theorem tw10349099392743876316 : True := trivial
theorem tw10554110265261159896 : True := trivial
theorem tw15817950781715553859 : True := trivial
theorem tw17718630504441553046 : True := trivial
theorem tw3020211082907656627 : True := trivial
theorem tw4496140380684294578 : True := trivial
theorem tw4975498489118219482 : True := trivial
theorem tw10829454382816509828 : True := trivial
theorem tw4179720898827653786 : True := trivial
theorem tw5674651165480538139 : True := trivial
theorem tw13107360394496692563 : True := trivial
theorem tw1047218515586267769 : True := trivial
theorem tw14495259122920874253 : True := trivial
end PySem.W.Fast
open PySem PySem.W PyProof.Rows
local macro_rules | `(tactic| walk_at "F")=> `(tactic| (letI:DL.Lam:=⟨[]⟩;exact DL.qgh (by k_is) (by k_is) (by k_is)))
set_option maxHeartbeats 0 in
theorem PySem.Challenge.cw_oftentogether_k72_shown_and_listed_holds : PySem.Challenge.rw_oftentogether_k72_shown_and_listed.Holds := by
 w_on;o_law;k_head;(case hw=>w_witness2)
 k_fill
 letI:DL.Lam:=⟨[]⟩
 refine DL.qj1 rfl (l:=PySem.Challenge.rw_oftentogether_k72_shown_and_listed) (k:=6) (x:="_law_script") rfl rfl ⟨rfl,by decide,by decide⟩ (fun w h Y=>PySem.W.kIn_of Y) ?F
 case F=>
  intro w mg fa h KX G hmg;refine' My.all_mk KX G hmg My.qfd ?x_law_set ?F_law_set ?x_law_power ?F_law_power ?x_law_run ?F_law_run ?x_law_mixed ?F_law_mixed ?x_law_pile ?F_law_pile ?x_line_of ?F_line_of ?x_shown ?F_shown ?x_law_names ?F_law_names ?x_law_is ?F_law_is ?x_is_many ?F_is_many ?x_is_head ?F_is_head ?x_is_name ?F_is_name ?x_are_names ?F_are_names ?x_line_read ?F_line_read ?x_lines_of ?F_lines_of ?x_places_by_name ?F_places_by_name ?x_read ?F_read ?x_listed ?F_listed ?x_law_line ?F_law_line ?x_law ?F_law ?z_range ?z_tuple ?z_len ?z_max ?z_min ?z_isinstance ?z_str ?z_int ?z_all ?z_set ?z_sorted ?y_FIGURES ?y_SMALL_LETTERS ?y_MOST_MANY ?y_LONGEST_NAME ?y_MOST_WARES ?y_MOST_RUNS
  (case x_law_set=>k_is)
  (case F_law_set=>walk_at "F")
  (case x_law_power=>k_is)
  (case F_law_power=>walk_at "F")
  (case x_law_run=>k_is)
  (case F_law_run=>walk_at "F")
  (case x_law_mixed=>k_is)
  (case F_law_mixed=>walk_at "F")
  (case x_law_pile=>k_is)
  (case F_law_pile=>walk_at "F")
  (case x_line_of=>k_is)
  (case F_line_of=>walk_at "F")
  (case x_shown=>k_is)
  (case F_shown=>walk_at "F")
  (case x_law_names=>k_is)
  (case F_law_names=>walk_at "F")
  (case x_law_is=>k_is)
  (case F_law_is=>walk_at "F")
  (case x_is_many=>k_is)
  (case F_is_many=>walk_at "F")
  (case x_is_head=>k_is)
  (case F_is_head=>walk_at "F")
  (case x_is_name=>k_is)
  (case F_is_name=>walk_at "F")
  (case x_are_names=>k_is)
  (case F_are_names=>walk_at "F")
  (case x_line_read=>k_is)
  (case F_line_read=>walk_at "F")
  (case x_lines_of=>k_is)
  (case F_lines_of=>walk_at "F")
  (case x_places_by_name=>k_is)
  (case F_places_by_name=>walk_at "F")
  (case x_read=>k_is)
  (case F_read=>walk_at "F")
  (case x_listed=>k_is)
  (case F_listed=>walk_at "F")
  (case x_law_line=>k_is)
  (case F_law_line=>walk_at "F")
  (case x_law=>k_is)
  (case F_law=>walk_at "F")
  (case z_range=>k_is)
  (case z_tuple=>k_is)
  (case z_len=>k_is)
  (case z_max=>k_is)
  (case z_min=>k_is)
  (case z_isinstance=>k_is)
  (case z_str=>k_is)
  (case z_int=>k_is)
  (case z_all=>k_is)
  (case z_set=>k_is)
  (case z_sorted=>k_is)
  (case y_FIGURES=>k_is)
  (case y_SMALL_LETTERS=>k_is)
  (case y_MOST_MANY=>k_is)
  (case y_LONGEST_NAME=>k_is)
  (case y_MOST_WARES=>k_is)
  (case y_MOST_RUNS=>k_is)
