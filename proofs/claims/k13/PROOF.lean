import PyProof.Rows.All
import Wide.All
import OpenK.AllK
import Wide.FinOn
import Lean
import PyProof.EqAt
import PyProof.EqKinds
import PyProof.TupleCall
import PyProof.Rows.SortRuns
import PyProof.Rows.SortShell
import KE.KSortTup
import PyProof.NeKinds
import KE.KLam
import KE.KNestM
import PyProof.AutoSeq1
import PySem.Challenge.RW_oftentogether_k13_by_columns
set_option Elab.async false
set_option linter.all false
set_option maxRecDepth 100000
set_option maxRecDepth 100000
namespace L2
open PySem PySem.Spec PyProof.Rows
abbrev Key := Sum Int Str
def keyIs : Key → Value → Bool
  | .inl k, v => Value.isInt k v
  | .inr x, v => Value.isStrOf x v
def keyH (w : World) : Key → Int
  | .inl k => hashInt k
  | .inr x => hashStr w x
theorem keyIs_shape : ∀ {k : Key} {v : Value}, keyIs k v = true → (∃ i t, k = Sum.inl i ∧ v = Value.int i t) ∨ (∃ x t, k = Sum.inr x ∧ v = Value.str x t)
  | .inl i, v, h => by
    obtain ⟨t, e⟩ := Value.isInt_shape (k := i) (v := v) h
    exact .inl ⟨i, t, rfl, e⟩
  | .inr x, v, h => by
    obtain ⟨t, e⟩ := Value.isStrOf_shape (x := x) (v := v) h
    exact .inr ⟨x, t, rfl, e⟩
theorem key_ll (a b : Int) : decide ((Sum.inl a : Key) = Sum.inl b) = (a == b) := by
  by_cases e : a = b
  · subst e; simp
  · have h : ¬ (Sum.inl a : Key) = Sum.inl b := fun q => e (Sum.inl.inj q)
    rw [decide_eq_false h]
    exact (beq_eq_false_iff_ne.mpr e).symm
theorem key_rr (a b : Str) : decide ((Sum.inr a : Key) = Sum.inr b) = decide (a = b) := by
  by_cases e : a = b
  · subst e; simp
  · have h : ¬ (Sum.inr a : Key) = Sum.inr b := fun q => e (Sum.inr.inj q)
    rw [decide_eq_false h, decide_eq_false e]
theorem key_lr (a : Int) (b : Str) : decide ((Sum.inl a : Key) = Sum.inr b) = false := decide_eq_false (fun q => nomatch q)
theorem key_rl (a : Str) (b : Int) : decide ((Sum.inr a : Key) = Sum.inl b) = false := decide_eq_false (fun q => nomatch q)
def mixKind (prog : Program) (w : World) : PySem.KeyKind prog w Key where
  is := keyIs
  hash := keyH w
  inj := fun v a b ha hb => by
    rcases keyIs_shape ha with ⟨i, t, rfl, rfl⟩ | ⟨x, t, rfl, rfl⟩
    · rcases keyIs_shape hb with ⟨j, u, rfl, e⟩ | ⟨y, u, rfl, e⟩
      · injection e with e1 _; rw [e1]
      · exact nomatch e
    · rcases keyIs_shape hb with ⟨j, u, rfl, e⟩ | ⟨y, u, rfl, e⟩
      · exact nomatch e
      · injection e with e1 _; rw [e1]
  byValue := fun k v h => by
    rcases keyIs_shape h with ⟨i, t, rfl, rfl⟩ | ⟨x, t, rfl, rfl⟩ <;> rfl
  pyHash := fun hv h => by
    rcases keyIs_shape hv with ⟨i, t, rfl, rfl⟩ | ⟨x, t, rfl, rfl⟩
    · exact wpAny_pyHash_int h
    · exact wpAny_pyHash_str h
  eqBool := fun hu hv h => by
    rcases keyIs_shape hu with ⟨i, t, rfl, rfl⟩ | ⟨x, t, rfl, rfl⟩
    · rcases keyIs_shape hv with ⟨j, u, rfl, rfl⟩ | ⟨y, u, rfl, rfl⟩
      · rw [key_ll] at h; exact wpAny_eqBool_int h
      · rw [key_lr] at h; exact SeqAt.EqAt.int_str i t y u _ _ _ _ h
    · rcases keyIs_shape hv with ⟨j, u, rfl, rfl⟩ | ⟨y, u, rfl, rfl⟩
      · rw [key_rl] at h; exact SeqAt.EqAt.str_int x t j u _ _ _ _ h
      · rw [key_rr] at h; exact wpAny_eqBool_str h
  «strs» := fun k x t v h => by
    rcases keyIs_shape h with ⟨i, u, rfl, e⟩ | ⟨y, u, rfl, e⟩
    · exact nomatch e
    · injection e with e1 _
      subst e1
      cases v <;> rfl
end L2
namespace L2
open PySem PySem.Spec PyProof.Rows
inductive V where
  | non | bl (b : Bool) | int (i : Int) | str (x : Str) | byt (b : Array UInt8) | flt (b : UInt64) | ref (a : Addr) | ty (n : String)
  deriving DecidableEq
def RelV : V → Value → Prop
  | .non, u => u = Value.none
  | .bl b, u => u = Value.bool b
  | .int i, u => ∃ t, u = Value.int i t
  | .str x, u => ∃ t, u = Value.str x t
  | .byt b, u => ∃ t, u = Value.bytes b t
  | .flt b, u => ∃ t, u = Value.float b t
  | .ref a, u => u = Value.ref a
  | .ty n, u => u = Value.type n
abbrev Vals : List V → List Value → Prop := Paired RelV
theorem Vals.length {xs : List V} {us : List Value} (r : Vals xs us) : xs.length = us.length := Paired.length r
theorem Vals.get : ∀ {xs : List V} {us : List Value} {i : Nat} {x : V}, Vals xs us → xs[i]? = some x → ∃ u, us[i]? = some u ∧ RelV x u
  | _, _, _, _, .nil, e => by simp at e
  | _, _, 0, _, .cons r _, e => by simp at e; subst e; exact ⟨_, rfl, r⟩
  | _, _, i + 1, x, .cons _ t, e => by
    obtain ⟨u, h1, h2⟩ := Vals.get (i := i) (x := x) t (by simpa using e)
    exact ⟨u, by simpa using h1, h2⟩
theorem Vals.append : ∀ {xs ys : List V} {us ws : List Value}, Vals xs us → Vals ys ws → Vals (xs ++ ys) (us ++ ws)
  | _, _, _, _, .nil, s => s
  | _, _, _, _, .cons r t, s => .cons r (Vals.append t s)
theorem Vals.take : ∀ {xs : List V} {us : List Value} (n : Nat), Vals xs us → Vals (xs.take n) (us.take n)
  | _, _, 0, _ => .nil
  | _, _, _ + 1, .nil => .nil
  | _, _, n + 1, .cons r t => .cons r (Vals.take n t)
theorem Vals.drop : ∀ {xs : List V} {us : List Value} (n : Nat), Vals xs us → Vals (xs.drop n) (us.drop n)
  | _, _, 0, r => r
  | _, _, _ + 1, .nil => .nil
  | _, _, n + 1, .cons _ t => Vals.drop n t
def RelO : Option V → Option Value → Prop
  | some v, some u => RelV v u
  | none, none => True
  | _, _ => False
def KV {κ : Type} : List (κ × V) → List (κ × Value) → Prop := Paired fun (p : κ × V) (q : κ × Value) => p.1 = q.1 ∧ RelV p.2 q.2
def kV : Key → V
  | .inl i => .int i
  | .inr x => .str x
inductive HO where
  /-- a list -/
  | lst (xs : List V)
  /-- a tuple (never changes) -/
  | tup (xs : List V)
  /-- a dict whose keys are ints and texts; one whose keys are tuples of ints and texts (the empty one is both) -/
  | dK (kvs : List (Key × V)) | dT (kvs : List (List Key × V))
  /-- a set of ints: its members, its size -/
  | set (S : Int → Bool) (n : Nat)
  /-- an instance of the class at C, its dict at dx, its attributes -/
  | ins (C dx : Addr) (fs : List (Str × V))
  /-- the dict of the instance at x -/
  | own (x : Addr)
  /-- the dict of an exception -/
  | xd (fs : List (Str × V))
  /-- a bound method, f of x -/
  | met (f x : Addr)
  /-- a range object lo, lo + 1, .. below hi -/
  | rng (lo hi : Int)
  /-- a thing that is known to the object (the script; a dict while a loop walks it): read, never written while it is so -/
  | frz (o : Obj) (u : HO)
  /-- a code object's table -/
  | tbl (ps : Array Value)
  /-- any other thing, by what is true of its one object (a def of one's own: SetO a S n := HO.ext fun h => ..) -/
  | ext (φ : Heap → Prop)
abbrev Hp := Addr → Option HO
def upd (H : Hp) (a : Addr) (o : HO) : Hp := fun b => if b = a then some o else H b
theorem upd_same {H : Hp} {a : Addr} {o : HO} : upd H a o a = some o := by unfold upd; rw [if_pos rfl]
theorem upd_ne {H : Hp} {a b : Addr} {o : HO} (h : b ≠ a) : upd H a o b = H b := by unfold upd; rw [if_neg h]
theorem ne_of_none {H : Hp} {a b : Addr} {o : HO} (h : H a = some o) (h' : H b = none) : a ≠ b := by
  intro e; subst e; rw [h] at h'; cases h'
section
variable (P : Program) (w : World)
def ObjOk (H : Hp) (h : Heap) (a : Addr) : HO → Prop
  | .lst xs => xs.length ≤ sizeLine ∧ ∃ (its : List Value) (n : Nat), Vals xs its ∧ h.get? a = some { cls := .type "list", data := .seq its.toArray n }
  | .tup xs => xs.length ≤ sizeLine ∧ ∃ its : List Value, Vals xs its ∧ IsTup h a its.toArray
  | .dK kvs => kvs.length ≤ sizeLine ∧ (a == sysModules) = false ∧ ∃ vs, KV kvs vs ∧ h.DictOf (mixKind P w) a vs
  | .dT kvs => kvs.length ≤ sizeLine ∧ (a == sysModules) = false ∧ ∃ xs : List (List Key × Addr × Value),
      Paired (fun (p : List Key × V) (q : List Key × Addr × Value) => p.1 = q.1 ∧ H q.2.1 = some (.tup (p.1.map kV)) ∧ RelV p.2 q.2.2) kvs xs ∧
      ∃ o es ep, h.get? a = some o ∧ o.ExactDict ∧ o.data = .dict es ep ∧ es.toList = xs.map (entryOfKey (tupleKind (mixKind P w))) ∧ (xs.map (·.1)).Nodup
  | .set S n => h.SetOf (intKind P w) a S n
  | .ins C dx fs => H dx = some (.own a) ∧ fs.length ≤ 1000 ∧ dx ≠ a ∧ h.get? a = some (PySem.W.instObj C dx) ∧
      ∃ mA, h.Ns1 dx mA ∧ (∀ f, RelO (fs.lookup f) (mA f)) ∧ PySem.Within mA (fs.map (·.1))
  | .own _ => ∃ o, h.get? a = some o
  | .xd fs => ∃ mA, h.Ns1 a mA ∧ ∀ f, RelO (fs.lookup f) (mA f)
  | .rng lo hi => ∃ t u v, h.get? a = some { cls := .type "range", data := .fields #[.int lo t, .int hi u, .int 1 v] }
  | .frz o u => h.get? a = some o ∧ ObjOk H h a u
  | .tbl ps => h.get? a = some { cls := .none, data := .fields ps }
  | .met f x => h.get? a = some (PySem.W.methodObj (.ref f) (.ref x))
  | .ext φ => φ h ∧ (∃ o, h.get? a = some o) ∧ ∀ h1 h2 : Heap, φ h1 → (∀ o, h1.get? a = some o → h2.get? a = some o) → φ h2
def HOk (H : Hp) (h : Heap) : Prop := ∀ a o, H a = some o → ObjOk P w H h a o
end
section
variable {P : Program} {w : World} {H H' : Hp} {h h' : Heap} {a : Addr} {o : HO}
theorem ObjOk.lt (x : ObjOk P w H h a o) : a < h.objs.size := by
  cases o with
  | lst xs => obtain ⟨_, _, _, _, e⟩ := x; exact Heap.lt_size e
  | tup xs => obtain ⟨_, _, _, p⟩ := x; exact p.lt
  | dK kvs => obtain ⟨_, _, _, _, o, _, _, e, _⟩ := x; exact Heap.lt_size e
  | dT kvs => obtain ⟨_, _, _, _, o, _, _, e, _⟩ := x; exact Heap.lt_size e
  | set S n => obtain ⟨o, _, _, _, e, _⟩ := x; exact Heap.lt_size e
  | ins C dx fs => obtain ⟨_, _, _, e, _⟩ := x; exact Heap.lt_size e
  | own y => obtain ⟨_, e⟩ := x; exact Heap.lt_size e
  | xd fs => obtain ⟨_, ⟨_, _, _, e, _⟩, _⟩ := x; exact Heap.lt_size e
  | rng lo hi => obtain ⟨_, _, _, e⟩ := x; exact Heap.lt_size e
  | frz ob u => obtain ⟨e, _⟩ := x; exact Heap.lt_size e
  | tbl ps => exact Heap.lt_size (show h.get? a = some _ from x)
  | met f y => exact Heap.lt_size (show h.get? a = some _ from x)
  | ext φ => obtain ⟨_, ⟨_, e⟩, _⟩ := x; exact Heap.lt_size e
theorem Paired.mapP {α β : Type} {F G : α → β → Prop} : ∀ {l₁ : List α} {l₂ : List β}, Paired F l₁ l₂ → (∀ a b, F a b → G a b) → Paired G l₁ l₂
  | _, _, .nil, _ => .nil
  | _, _, .cons r t, f => .cons (f _ _ r) (Paired.mapP t f)
theorem ObjOk.stay (x : ObjOk P w H h a o) (k : ∀ b u, (b = a ∨ H b = some (.own a)) → h.get? b = some u → h'.get? b = some u)
    (ho : ∀ b, H b = some (.own a) → H' b = some (.own a)) (ht : ∀ b xs, H b = some (.tup xs) → H' b = some (.tup xs)) : ObjOk P w H' h' a o := by
  induction o with
  | lst xs => obtain ⟨z, its, n, r, e⟩ := x; exact ⟨z, its, n, r, k _ _ (.inl rfl) e⟩
  | tup xs => obtain ⟨z, its, r, ob, e, c⟩ := x; exact ⟨z, its, r, ob, k _ _ (.inl rfl) e, c⟩
  | dK kvs => obtain ⟨z, y, vs, r, ob, es, ep, e, c⟩ := x; exact ⟨z, y, vs, r, ob, es, ep, k _ _ (.inl rfl) e, c⟩
  | dT kvs =>
    obtain ⟨z, y, xs, r, ob, es, ep, e, c⟩ := x
    exact ⟨z, y, xs, Paired.mapP r fun p q z => ⟨z.1, ht _ _ z.2.1, z.2.2⟩, ob, es, ep, k _ _ (.inl rfl) e, c⟩
  | set S n => obtain ⟨ob, es, ep, t, e, c⟩ := x; exact ⟨ob, es, ep, t, k _ _ (.inl rfl) e, c⟩
  | ins C dx fs =>
    obtain ⟨d, z, ne, e, mA, ⟨od, es, ep, e2, c⟩, r⟩ := x
    exact ⟨ho _ d, z, ne, k _ _ (.inl rfl) e, mA, ⟨od, es, ep, k _ _ (.inr d) e2, c⟩, r⟩
  | own y => obtain ⟨ob, e⟩ := x; exact ⟨ob, k _ _ (.inl rfl) e⟩
  | xd fs => obtain ⟨mA, ⟨od, es, ep, e, c⟩, r⟩ := x; exact ⟨mA, ⟨od, es, ep, k _ _ (.inl rfl) e, c⟩, r⟩
  | rng lo hi => obtain ⟨t, u, v, e⟩ := x; exact ⟨t, u, v, k _ _ (.inl rfl) e⟩
  | frz ob u ih => obtain ⟨e, q⟩ := x; exact ⟨k _ _ (.inl rfl) e, ih q⟩
  | tbl ps =>
    have e : h.get? a = some { cls := .none, data := .fields ps } := x
    show h'.get? a = some { cls := .none, data := .fields ps }
    exact k a _ (.inl rfl) e
  | met f y =>
    have e : h.get? a = some (PySem.W.methodObj (.ref f) (.ref y)) := x
    show h'.get? a = some (PySem.W.methodObj (.ref f) (.ref y))
    exact k a _ (.inl rfl) e
  | ext φ => obtain ⟨p, ⟨o, e⟩, st⟩ := x; exact ⟨st _ _ p fun o q => k _ _ (.inl rfl) q, ⟨o, k _ _ (.inl rfl) e⟩, st⟩
theorem HOk.lt (x : HOk P w H h) (e : H a = some o) : a < h.objs.size := (x a o e).lt
theorem HOk.fresh (x : HOk P w H h) (e : h.objs.size ≤ a) : H a = none := by
  cases q : H a with
  | none => rfl
  | some u => exact absurd (Nat.lt_of_lt_of_le (x.lt q) e) (Nat.lt_irrefl _)
theorem HOk.kept (x : HOk P w H h) (k : ∀ b u, h.get? b = some u → h'.get? b = some u) : HOk P w H h' := fun a o e =>
  (x a o e).stay (fun b u _ q => k b u q) (fun _ q => q) fun _ _ q => q
theorem HOk.laid (x : HOk P w H h) (k : ∀ b u, h.get? b = some u → h'.get? b = some u) (hp : h.objs.size ≤ a) (new : ObjOk P w (upd H a o) h' a o) : HOk P w (upd H a o) h' := fun b u e => by
  have hn := x.fresh hp
  by_cases hb : b = a
  · subst hb; rw [upd_same] at e; cases e; exact new
  · rw [upd_ne hb] at e
    exact (x b u e).stay (fun c v _ q => k c v q) (fun c q => by rw [upd_ne (ne_of_none q hn)]; exact q) fun c xs q => by rw [upd_ne (ne_of_none q hn)]; exact q
end
def Rd (H : Hp) (a : Addr) (u : HO) : Prop := H a = some u ∨ ∃ o, H a = some (.frz o u)
theorem Rd.ok {P : Program} {w : World} {H : Hp} {h : Heap} {a : Addr} {u : HO} (r : Rd H a u) (x : HOk P w H h) : ObjOk P w H h a u := by
  rcases r with r | ⟨o, r⟩
  · exact x a u r
  · obtain ⟨_, q⟩ := x a _ r
    exact q
def Mut : Option HO → Prop
  | some (.lst _) => True
  | some (.dK _) => True
  | some (.dT _) => True
  | some (.set _ _) => True
  | some (.ins _ _ _) => True
  | some (.ext _) => True
  | _ => False
section
variable {P : Program} {w : World} {H : Hp} {h h' : Heap} {x e : Addr} {o' : HO}
theorem HOk.write (ok : HOk P w H h) (mu : Mut (H x)) (he : e = x ∨ H e = some (.own x)) (k : ∀ b u, b ≠ e → h.get? b = some u → h'.get? b = some u) (heo : ∃ u, h'.get? e = some u)
    (new : ObjOk P w (upd H x o') h' x o') : HOk P w (upd H x o') h' := fun b u q => by
  have nown : ∀ c y, H c = some (.own y) → c ≠ x := fun c y r z => by subst z; rw [r] at mu; exact mu
  have ntup : ∀ c xs, H c = some (.tup xs) → c ≠ x := fun c xs r z => by subst z; rw [r] at mu; exact mu
  by_cases hb : b = x
  · subst hb; rw [upd_same] at q; cases q; exact new
  · rw [upd_ne hb] at q
    by_cases hbe : b = e
    · have q' : H b = some (.own x) := by
        rcases he with z | z
        · exact absurd (hbe.trans z) hb
        · rw [hbe]; exact z
      rw [q] at q'; cases q'
      obtain ⟨v, hv⟩ := heo
      exact ⟨v, by rw [hbe]; exact hv⟩
    · refine (ok b u q).stay (fun c v hc r => k c v ?_ r) (fun c r => by rw [upd_ne (nown c b r)]; exact r) fun c xs r => by rw [upd_ne (ntup c xs r)]; exact r
      rcases hc with rfl | hc
      · exact hbe
      · rintro rfl
        rcases he with z | z
        · exact nown c b hc z
        · rw [hc] at z; cases z; exact hb rfl
end
structure Un (fs ex : List Addr) (H H' : Hp) (h h' : Heap) : Prop where
  keep : ∀ b o, h.get? b = some o → H b = none → b ∉ fs → b ∉ ex → h'.get? b = some o
  slot : ∀ b o, h.get? b = some o → H b = none → b ∈ fs → b ∉ ex → ∃ sl, h'.get? b = some { o with slots := sl }
  free : ∀ b o, h.get? b = some o → H b = none → b ∉ ex → H' b = none
  there : ∀ b o, h.get? b = some o → b ∉ ex → ∃ o', h'.get? b = some o'
  tups : ∀ b xs, H b = some (.tup xs) → H' b = some (.tup xs)
  frzs : ∀ b o u, H b = some (.frz o u) → H' b = some (.frz o u)
  tbls : ∀ b ps, H b = some (.tbl ps) → ∃ more, H' b = some (.tbl (ps ++ more))
section
variable {fs fs' ex ex' : List Addr} {H H1 H2 : Hp} {h h1 h2 h' : Heap} {a x e : Addr} {o : HO}
theorem Un.any (u : Un fs ex H H1 h h1) {b : Addr} {ob : Obj} (q : h.get? b = some ob) (n : H b = none) (hx : b ∉ ex) : ∃ sl, h1.get? b = some { ob with slots := sl } := by
  by_cases hb : b ∈ fs
  · exact u.slot b ob q n hb hx
  · exact ⟨ob.slots, u.keep b ob q n hb hx⟩
theorem Un.kept (k : ∀ b u, h.get? b = some u → h'.get? b = some u) : Un fs ex H H h h' :=
  ⟨fun b ob q _ _ _ => k b ob q, fun b ob q _ _ _ => ⟨ob.slots, k b ob q⟩, fun _ _ _ n _ => n, fun b ob q _ => ⟨ob, k b ob q⟩, fun _ _ q => q, fun _ _ _ q => q, fun _ ps q => ⟨#[], by rw [q]; simp⟩⟩
theorem Un.refl : Un fs ex H H h h := Un.kept fun _ _ q => q
theorem Un.laid (k : ∀ b u, h.get? b = some u → h'.get? b = some u) (hp : h.objs.size ≤ a) (hn : H a = none) : Un fs ex H (upd H a o) h h' where
  keep := fun b u q _ _ _ => k b u q
  slot := fun b u q _ _ _ => ⟨u.slots, k b u q⟩
  free := fun b u q n _ => by rw [upd_ne (Nat.ne_of_lt (Nat.lt_of_lt_of_le (Heap.lt_size q) hp))]; exact n
  there := fun b u q _ => ⟨u, k b u q⟩
  tups := fun b xs q => by rw [upd_ne (ne_of_none q hn)]; exact q
  frzs := fun b u xs q => by rw [upd_ne (ne_of_none q hn)]; exact q
  tbls := fun b ps q => ⟨#[], by rw [upd_ne (ne_of_none q hn), q]; simp⟩
theorem Un.write (mu : Mut (H x)) (he : e = x ∨ H e = some (.own x)) (k : ∀ b u, b ≠ e → h.get? b = some u → h'.get? b = some u) (heo : ∃ u, h'.get? e = some u) : Un fs ex H (upd H x o) h h' := by
  have hx : ∀ b, H b = none → b ≠ x := fun b n z => by subst z; rw [n] at mu; exact mu
  have hb : ∀ b, H b = none → b ≠ e := fun b n z => by
    subst z
    rcases he with r | r
    · exact hx b n r
    · rw [n] at r; cases r
  have hm : ∀ b u, H b = some u → ¬ Mut (some u) → b ≠ x := fun b u q nm z => by subst z; rw [q] at mu; exact nm mu
  refine ⟨fun b u q n _ _ => k b u (hb b n) q, fun b u q n _ _ => ⟨u.slots, k b u (hb b n) q⟩, fun b u q n _ => by rw [upd_ne (hx b n)]; exact n, fun b u q _ => ?_,
    fun b xs q => by rw [upd_ne (hm b _ q fun z => z)]; exact q, fun b u xs q => by rw [upd_ne (hm b _ q fun z => z)]; exact q, fun b ps q => ⟨#[], by rw [upd_ne (hm b _ q fun z => z), q]; simp⟩⟩
  by_cases hbe : b = e
  · subst hbe; exact heo
  · exact ⟨u, k b u hbe q⟩
end
def trk (h : Heap) (H : Hp) : List Addr := (List.range h.objs.size).filter fun a => (H a).isSome
def hidT (h : Heap) (H : Hp) : Heap := PySem.W.hideAll h (trk h H)
theorem hidT_size (h : Heap) (H : Hp) : (hidT h H).objs.size = h.objs.size := PySem.W.hideAll_size _ _
theorem hidT_get {h : Heap} {H : Hp} {b : Addr} {o : Obj} (e : h.get? b = some o) (n : H b = none) : (hidT h H).get? b = some o :=
  PySem.W.hideAll_get _ e fun hm => by
    have q : (H b).isSome = true := (List.mem_filter.mp hm).2
    rw [n] at q; simp at q
theorem of_hidT {h : Heap} {H : Hp} {b : Addr} {o : Obj} (e : (hidT h H).get? b = some o) : h.get? b = some o ∧ H b = none := by
  have e' : h.get? b = some o := PySem.W.of_hideAll (trk h H) e
  refine ⟨e', ?_⟩
  cases q : H b with
  | none => rfl
  | some x =>
    have hm : b ∈ trk h H := List.mem_filter.mpr ⟨List.mem_range.mpr (Heap.lt_size e'), by simp [q]⟩
    have z : (hidT h H).get? b = none := PySem.W.hideAll_none (trk h H) hm
    rw [z] at e; cases e
def allNews (g h : Heap) (L : Addr) : List (Addr × Obj) := (List.range h.objs.size).filterMap fun a => if a = L ∨ (g.get? a).isSome = true then none else (h.get? a).map fun o => (a, o)
def rest (g h : Heap) (L d : Addr) : List (Addr × Obj) := (allNews g h L).filter fun p => decide (p.1 ≠ d)
end L2
namespace L2
open PySem PySem.Spec PyProof.Rows
structure Mod (K : PySem.W.Frag) (mg : Str → Option Value) (base : Heap) : Prop where
  kin : K.In base
  glob : base.Ns mainGlobals mg
  blt : ∃ mb, base.Ns builtinsNs mb ∧ ∀ x : Str, x ≠ "__name__" → mb x = bootBuiltins x
  nolimit : base.NoLimit
structure Cx where
  prog : Program
  w : World
  K : PySem.W.Frag
  mg : Str → Option Value
  base : Heap
  A : Around
  N : List Str
  s₀ : Shared
  H₀ : Hp
  env : Env
  outer : List Env
  stack : List Env
  ex : List Addr
  fn : Str → Bool
  calm : Bool
  pn : List (Addr × Obj)
  xe : Value → Shared → Prop
def frs (l : List Env) : List Addr := l.filterMap (·.frame)
abbrev Cx.fs (X : Cx) : List Addr := frs X.outer
def Vis (sc : Scope) (x : Str) : Prop := sc.names.lookup x = some .local ∨ sc.names.lookup x = some .cell ∨ sc.names.lookup x = some .free
def Loc (sc : Scope) (x : Str) : Prop := sc.names.lookup x = some .local ∨ sc.names.lookup x = some .cell
def Look (env : Env) (h : Heap) (m : Str → Option Value) (x : Str) (u : Value) : Prop :=
  (env.kindOf x = some .local ∧ m x = some u) ∨ ((env.kindOf x = some .cell ∨ env.kindOf x = some .free) ∧ ∃ c, env.cells.lookup x = some c ∧ h.IsCell c (some u))
structure Cx.Ok (X : Cx) : Prop where
  mod : Mod X.K X.mg X.base
  kind : X.env.scope.kind = .function
  glob : X.env.globals = mainGlobals
  blt : X.env.builtins = builtinsNs
  above : X.s₀.heap.objs.size ≤ X.env.locals
  inj : ∀ x y c, X.env.cells.lookup x = some c → X.env.cells.lookup y = some c → x = y
  has : ∀ x, (X.env.kindOf x = some .cell ∨ X.env.kindOf x = some .free) → ∃ c, X.env.cells.lookup x = some c
  cab : ∀ x c, X.fn x = true → X.env.cells.lookup x = some c → X.s₀.heap.objs.size ≤ c
  hd : X.calm = true → X.A.handled = none
  frames : X.A.frames = some X.stack
  stk : X.stack = X.outer ∨ (X.stack = X.env :: X.outer ∧ X.env.frame = some X.env.locals)
  exf : ∀ b ∈ X.ex, b ≠ X.env.locals ∧ ∀ x c, X.env.cells.lookup x = some c → c ≠ b
  bs : ∀ b o, X.base.get? b = some o → X.s₀.heap.get? b = some o ∧ X.H₀ b = none
  bsz : X.base.objs.size ≤ X.s₀.heap.objs.size
  noex : ∀ b o, X.base.get? b = some o → b ∉ X.ex
  exfs : ∀ b ∈ X.ex, b ∉ X.fs
  funs : X.s₀.heap.FunFrames X.base X.outer
  frf : ∀ b ∈ X.fs, X.H₀ b = none
structure Inv (X : Cx) (pins : List (Addr × Obj)) (σ : List (Option V)) (H : Hp) (s : Shared) : Prop where
  ok : X.Ok
  os : s.os = X.s₀.os
  bare : AllBare s.gens
  base : Un X.fs X.ex X.H₀ H X.s₀.heap s.heap
  loc : ∃ m, s.heap.Ns X.env.locals m ∧ ∀ (i : Nat) (x : Str) (v : V), X.N[i]? = some x → σ[i]? = some (some v) → Vis X.env.scope x → ∃ u, RelV v u ∧ Look X.env s.heap m x u
  cell : ∀ x c, X.env.cells.lookup x = some c → ∃ v, s.heap.IsCell c v
  free : H X.env.locals = none
  freeC : ∀ x c, X.env.cells.lookup x = some c → H c = none
  pin : ∀ p ∈ X.pn ++ pins, s.heap.get? p.1 = some p.2 ∧ H p.1 = none ∧ p.1 ≠ X.env.locals ∧ p.1 ∉ X.fs ∧ ∀ v, p.2.data ≠ .cell v
  hok : HOk X.prog X.w H s.heap
  len : σ.length = X.N.length
section
variable {X : Cx} {pins : List (Addr × Obj)} {σ : List (Option V)} {H H' : Hp} {s : Shared} {h' : Heap}
theorem Cx.Ok.nofr (ok : X.Ok) {b : Addr} {o : Obj} (e : X.base.get? b = some o) : b ∉ X.fs := fun hb => by
  have := (ok.funs.mem hb).1
  rw [e] at this; cases this
theorem Inv.bs (I : Inv X pins σ H s) : ∀ b o, X.base.get? b = some o → s.heap.get? b = some o ∧ H b = none := fun b o e =>
  ⟨I.base.keep b o (I.ok.bs b o e).1 (I.ok.bs b o e).2 (I.ok.nofr e) (I.ok.noex b o e), I.base.free b o (I.ok.bs b o e).1 (I.ok.bs b o e).2 (I.ok.noex b o e)⟩
theorem Inv.bk (I : Inv X pins σ H s) : ∀ b o, X.base.get? b = some o → s.heap.get? b = some o := fun b o e => (I.bs b o e).1
theorem Inv.mod (I : Inv X pins σ H s) : Mod X.K X.mg X.base := I.ok.mod
theorem Inv.kIn (I : Inv X pins σ H s) : X.K.In s.heap := I.ok.mod.kin.keeps I.bk
theorem Inv.lt (I : Inv X pins σ H s) : X.env.locals < s.heap.objs.size := let ⟨_, hn, _⟩ := I.loc; hn.lt
theorem Inv.sz (I : Inv X pins σ H s) : X.s₀.heap.objs.size ≤ s.heap.objs.size := Nat.le_trans I.ok.above (Nat.le_of_lt I.lt)
theorem Inv.nofs (I : Inv X pins σ H s) {a : Addr} (h : s.heap.objs.size ≤ a) : a ∉ X.fs := fun hb => by
  obtain ⟨_, o, ho, _⟩ := I.ok.funs.mem hb
  exact absurd (Nat.lt_of_lt_of_le (Heap.lt_size ho) (Nat.le_trans I.sz h)) (Nat.lt_irrefl _)
theorem Inv.cne (I : Inv X pins σ H s) : ∀ x c, X.env.cells.lookup x = some c → c ≠ X.env.locals := fun x c e z => by
  obtain ⟨v, o, ho, hd⟩ := I.cell x c e
  obtain ⟨m, ⟨o', es, ep, ho', hd', _⟩, _⟩ := I.loc
  rw [z, ho'] at ho; cases ho; rw [hd'] at hd; cases hd
theorem Inv.funs (I : Inv X pins σ H s) : s.heap.FunFrames X.base X.outer := by
  have all : ∀ (l : List Env), (∀ b ∈ frs l, b ∈ X.fs) → X.s₀.heap.FunFrames X.base l → s.heap.FunFrames X.base l := by
    intro l
    induction l with
    | nil => intro _ _; trivial
    | cons env r ih =>
      intro hs hl
      obtain ⟨hk, ⟨L, o, hf, hn, ho, hd⟩, hr⟩ := hl
      have hL : L ∈ X.fs := hs L (by unfold frs; rw [List.filterMap_cons, hf]; exact List.mem_cons_self)
      obtain ⟨sl, e⟩ := I.base.slot L o ho (I.ok.frf L hL) hL fun z => I.ok.exfs L z hL
      exact ⟨hk, ⟨L, _, hf, hn, e, hd⟩, ih (fun b hb => hs b (by unfold frs; rw [List.filterMap_cons, hf]; exact List.mem_cons_of_mem _ hb)) hr⟩
  exact all X.outer (fun _ hb => hb) I.ok.funs
theorem Inv.stack (I : Inv X pins σ H s) : s.heap.FunFrames X.base X.stack := by
  rcases I.ok.stk with e | ⟨e, hf⟩
  · rw [e]; exact I.funs
  · rw [e]
    obtain ⟨m, hn, _⟩ := I.loc
    refine .cons (by rw [I.ok.kind]; decide) hf hn ?_ I.funs
    exact Heap.get?_none_of_le (Nat.le_trans I.ok.bsz I.ok.above)
theorem Inv.stkSub (I : Inv X pins σ H s) : ∀ b ∈ frs X.stack, b ∈ X.env.locals :: X.fs := fun b hb => by
  rcases I.ok.stk with e | ⟨e, hf⟩
  · rw [e] at hb; exact List.mem_cons_of_mem _ hb
  · rw [e] at hb
    unfold frs at hb
    rw [List.filterMap_cons, hf] at hb
    exact hb
theorem Inv.stkFree (I : Inv X pins σ H s) : ∀ b ∈ frs X.stack, H b = none := fun b hb => by
  rcases List.mem_cons.mp (I.stkSub b hb) with e | hb
  · rw [e]; exact I.free
  · obtain ⟨_, o, ho, _⟩ := I.ok.funs.mem hb
    exact I.base.free b o ho (I.ok.frf b hb) fun z => I.ok.exfs b z hb
theorem Inv.step {g' : Array GenState} {t' : Nat} {d' : Drawn} {ch : List Addr} (I : Inv X pins σ H s)
    (hch : ∀ b ∈ ch, (b ∈ X.ex ∨ X.s₀.heap.objs.size ≤ b) ∧ b ≠ X.env.locals ∧ (∀ x c, X.env.cells.lookup x = some c → c ≠ b) ∧ ∀ p ∈ X.pn ++ pins, p.1 ≠ b)
    (keep : ∀ b o, b ≠ X.env.locals → b ∉ X.fs → b ∉ ch → s.heap.get? b = some o → H b = none → h'.get? b = some o)
    (slot : ∀ b o, b ≠ X.env.locals → b ∈ X.fs → b ∉ ch → s.heap.get? b = some o → H b = none → ∃ sl, h'.get? b = some { o with slots := sl }) (free : ∀ b o, b ∉ ch → s.heap.get? b = some o → H b = none → H' b = none)
    (there : ∀ b o, b ∉ ch → s.heap.get? b = some o → ∃ o', h'.get? b = some o')
    (tups : ∀ b xs, H b = some (.tup xs) → H' b = some (.tup xs)) (frzs : ∀ b o u, H b = some (.frz o u) → H' b = some (.frz o u)) (tbls : ∀ b ps, H b = some (.tbl ps) → ∃ more, H' b = some (.tbl (ps ++ more)))
    (ns : ∀ m, s.heap.Ns X.env.locals m → h'.Ns X.env.locals m) (hok : HOk X.prog X.w H' h') (hg : AllBare g') :
    Inv X pins σ H' { s with heap := h', gens := g', drawn := d', toks := t' } := by
  have neL : ∀ b o, X.s₀.heap.get? b = some o → b ≠ X.env.locals := fun b o e => Nat.ne_of_lt (Nat.lt_of_lt_of_le (Heap.lt_size e) I.ok.above)
  have neC : ∀ b o, X.s₀.heap.get? b = some o → b ∉ X.ex → b ∉ ch := fun b o e hx hb => by
    rcases (hch b hb).1 with z | z
    · exact hx z
    · exact absurd (Nat.lt_of_lt_of_le (Heap.lt_size e) z) (Nat.lt_irrefl _)
  have cellK : ∀ x c, X.env.cells.lookup x = some c → ∀ v, s.heap.IsCell c v → h'.IsCell c v := fun x c e v ⟨o, ho, hd⟩ => by
    have nch : c ∉ ch := fun z => (hch c z).2.2.1 x c e rfl
    by_cases hc : c ∈ X.fs
    · obtain ⟨sl, q⟩ := slot c o (I.cne x c e) hc nch ho (I.freeC x c e)
      exact ⟨_, q, hd⟩
    · exact ⟨o, keep c o (I.cne x c e) hc nch ho (I.freeC x c e), hd⟩
  refine ⟨I.ok, I.os, hg, ⟨fun b o e n hb hx => ?_, fun b o e n hb hx => ?_, fun b o e n hx => ?_, fun b o e hx => ?_, fun b xs e => tups b xs (I.base.tups b xs e), fun b o xs e => frzs b o xs (I.base.frzs b o xs e), fun b ps e => ?_⟩, ?_, fun x c e => ?_, ?_, fun x c e => ?_, fun p hp => ?_, hok, I.len⟩
  · exact keep b o (neL b o e) hb (neC b o e hx) (I.base.keep b o e n hb hx) (I.base.free b o e n hx)
  · obtain ⟨sl, e1⟩ := I.base.slot b o e n hb hx
    obtain ⟨sl', e2⟩ := slot b _ (neL b o e) hb (neC b o e hx) e1 (I.base.free b o e n hx)
    exact ⟨sl', e2⟩
  · obtain ⟨o', e1⟩ := I.base.there b o e hx
    exact free b o' (neC b o e hx) e1 (I.base.free b o e n hx)
  · obtain ⟨o', e1⟩ := I.base.there b o e hx
    exact there b o' (neC b o e hx) e1
  · obtain ⟨m1, e1⟩ := I.base.tbls b ps e
    obtain ⟨m2, e2⟩ := tbls b _ e1
    exact ⟨m1 ++ m2, by rw [e2, Array.append_assoc]⟩
  · obtain ⟨m, hn, hl⟩ := I.loc
    refine ⟨m, ns m hn, fun i x v e1 e2 e3 => ?_⟩
    obtain ⟨u, r, l⟩ := hl i x v e1 e2 e3
    refine ⟨u, r, ?_⟩
    rcases l with l | ⟨k, c, e, z⟩
    · exact .inl l
    · exact .inr ⟨k, c, e, cellK x c e _ z⟩
  · obtain ⟨v, z⟩ := I.cell x c e
    exact ⟨v, cellK x c e v z⟩
  · obtain ⟨m, ⟨o, _, _, ho, _⟩, _⟩ := I.loc
    exact free _ o (fun z => (hch _ z).2.1 rfl) ho I.free
  · obtain ⟨v, o, ho, hd⟩ := I.cell x c e
    exact free c o (fun z => (hch c z).2.2.1 x c e rfl) ho (I.freeC x c e)
  · obtain ⟨e, n, ne, nf, d⟩ := I.pin p hp
    have nch : p.1 ∉ ch := fun z => (hch p.1 z).2.2.2 p hp rfl
    exact ⟨keep p.1 p.2 ne nf nch e n, free p.1 p.2 nch e n, ne, nf, d⟩
theorem Inv.un {t' : Nat} (I : Inv X pins σ H s) (u : Un X.fs [] H H' s.heap h') (hok : HOk X.prog X.w H' h') : Inv X pins σ H' { s with heap := h', toks := t' } := by
  obtain ⟨m, ⟨o, es, ep, ho, r⟩, _⟩ := id I.loc
  obtain ⟨sl, hL⟩ := u.any ho I.free (by simp)
  exact I.step (g' := s.gens) (d' := s.drawn) (ch := []) (fun _ z => nomatch z) (fun b o _ hb _ e n => u.keep b o e n hb (by simp)) (fun b o _ hb _ e n => u.slot b o e n hb (by simp)) (fun b o _ e n => u.free b o e n (by simp)) (fun b o _ e => u.there b o e (by simp)) u.tups u.frzs u.tbls (fun m' hm => by
    obtain ⟨o', es', ep', ho', r'⟩ := hm
    rw [ho] at ho'; cases ho'
    exact ⟨_, es', ep', hL, r'⟩) hok I.bare
theorem Inv.call {g' : Array GenState} {t' : Nat} {d' : Drawn} {ch : List Addr} (I : Inv X pins σ H s) (u : Un (frs X.stack) ch H H' s.heap h') (hok : HOk X.prog X.w H' h') (hg : AllBare g')
    (hch : ∀ b ∈ ch, (b ∈ X.ex ∨ X.s₀.heap.objs.size ≤ b) ∧ b ≠ X.env.locals ∧ (∀ x c, X.env.cells.lookup x = some c → c ≠ b) ∧ ∀ p ∈ X.pn ++ pins, p.1 ≠ b) :
    Inv X pins σ H' { s with heap := h', gens := g', drawn := d', toks := t' } := by
  obtain ⟨m, ⟨o, es, ep, ho, r⟩, _⟩ := id I.loc
  obtain ⟨sl, hL⟩ := u.any ho I.free fun z => (hch _ z).2.1 rfl
  exact I.step (ch := ch) hch (fun b o hL hb hc e n => u.keep b o e n (fun z => (List.mem_cons.mp (I.stkSub b z)).elim hL hb) hc) (fun b o _ _ hc e n => u.any e n hc) (fun b o hc e n => u.free b o e n hc) (fun b o hc e => u.there b o e hc) u.tups u.frzs u.tbls (fun m' hm => by
    obtain ⟨o', es', ep', ho', r'⟩ := hm
    rw [ho] at ho'; cases ho'
    exact ⟨_, es', ep', hL, r'⟩) hok hg
theorem Inv.turned {t' : Nat} {it : Addr} (I : Inv X pins σ H s) (k : ∀ b o, b ≠ it → s.heap.get? b = some o → h'.get? b = some o) (hn : H it = none) (hL : it ≠ X.env.locals)
    (h1 : it ∈ X.ex ∨ X.s₀.heap.objs.size ≤ it) (h2 : ∀ x c, X.env.cells.lookup x = some c → c ≠ it) (h3 : ∀ p ∈ X.pn ++ pins, p.1 ≠ it) : Inv X pins σ H { s with heap := h', toks := t' } := by
  have nit : ∀ b u, H b = some u → b ≠ it := fun b u e z => by rw [z, hn] at e; cases e
  refine I.step (g' := s.gens) (d' := s.drawn) (ch := [it]) (fun b hb => ?_) (fun b o _ _ hc e _ => k b o (fun z => hc (by simp [z])) e) (fun b o _ _ hc e _ => ⟨o.slots, k b o (fun z => hc (by simp [z])) e⟩) (fun _ _ _ _ n => n)
    (fun b o hc e => ⟨o, k b o (fun z => hc (by simp [z])) e⟩) (fun _ _ e => e) (fun _ _ _ e => e) (fun b ps e => ⟨#[], by rw [e]; simp⟩) (fun m hm => ?_) (fun b u e => ?_) I.bare
  · have e : b = it := by simpa using hb
    subst e
    exact ⟨h1, hL, h2, h3⟩
  · obtain ⟨o, es, ep, ho, r⟩ := hm
    exact ⟨o, es, ep, k _ o (Ne.symm hL) ho, r⟩
  · refine (I.hok b u e).stay (fun c v hc q => k c v ?_ q) (fun _ q => q) fun _ _ q => q
    rcases hc with z | z
    · rw [z]; exact nit b u e
    · exact nit c _ z
theorem Inv.tok (I : Inv X pins σ H s) (t : Nat) : Inv X pins σ H { s with toks := t } := I.un (h' := s.heap) (t' := t) Un.refl I.hok
theorem Inv.kept {t' : Nat} (I : Inv X pins σ H s) (k : ∀ b u, s.heap.get? b = some u → h'.get? b = some u) : Inv X pins σ H { s with heap := h', toks := t' } := I.un (Un.kept k) (I.hok.kept k)
theorem Inv.laid {a : Addr} {o : HO} {t' : Nat} (I : Inv X pins σ H s) (k : ∀ b u, s.heap.get? b = some u → h'.get? b = some u) (hp : s.heap.objs.size ≤ a) (new : ObjOk X.prog X.w (upd H a o) h' a o) :
    Inv X pins σ (upd H a o) { s with heap := h', toks := t' } := I.un (Un.laid k hp (I.hok.fresh hp)) (I.hok.laid k hp new)
theorem Inv.write {x e : Addr} {o : HO} {t' : Nat} (I : Inv X pins σ H s) (mu : Mut (H x)) (he : e = x ∨ H e = some (.own x)) (k : ∀ b u, b ≠ e → s.heap.get? b = some u → h'.get? b = some u) (heo : ∃ u, h'.get? e = some u)
    (new : ObjOk X.prog X.w (upd H x o) h' x o) : Inv X pins σ (upd H x o) { s with heap := h', toks := t' } := I.un (Un.write mu he k heo) (I.hok.write mu he k heo new)
theorem Inv.pins_of {pins' : List (Addr × Obj)} (I : Inv X pins σ H s) (h : ∀ p ∈ pins', s.heap.get? p.1 = some p.2 ∧ H p.1 = none ∧ p.1 ≠ X.env.locals ∧ p.1 ∉ X.fs ∧ ∀ v, p.2.data ≠ .cell v) : Inv X pins' σ H s :=
  ⟨I.ok, I.os, I.bare, I.base, I.loc, I.cell, I.free, I.freeC, fun p hp => (List.mem_append.mp hp).elim (fun z => I.pin p (List.mem_append_left _ z)) (h p), I.hok, I.len⟩
theorem nodup_ix {N : List Str} (hN : N.Nodup) {i j : Nat} {x : Str} (a : N[i]? = some x) (b : N[j]? = some x) : i = j := by
  obtain ⟨h1, e1⟩ := List.getElem?_eq_some_iff.mp a
  obtain ⟨h2, e2⟩ := List.getElem?_eq_some_iff.mp b
  exact (List.getElem_inj hN).mp (e1.trans e2.symm)
theorem store_ok2 {M : Model} {A : Around} {E : Value → Shared → Prop} {i : Nat} {x : Str} {v : V} {u : Value} {Q : Unit → Shared → Prop} (I : Inv X pins σ H s) (hN : X.N.Nodup) (hi : X.N[i]? = some x) (hx : Loc X.env.scope x) (r : RelV v u)
    (h : ∀ s', Inv X pins (σ.set i (some v)) H s' → (∃ a, Heap.SameBut a s.heap s'.heap ∧ (a = X.env.locals ∨ X.env.cells.lookup x = some a)) → Q () s') (hf : X.fn x = true ∨ X.env.scope.names.lookup x = some .local := by first | exact .inl rfl | exact .inr rfl | assumption) : wpAny M A (storeName X.env x u) Q E s := by
  obtain ⟨m, hn, hl⟩ := id I.loc
  have hcls : (X.env.scope.kind == .class || (X.env.scope.kind == .module && X.env.locals != X.env.globals)) = false := by rw [I.ok.kind]; rfl
  have hiσ : i < σ.length := by rw [I.len]; exact (List.getElem?_eq_some_iff.mp hi).1
  have cne := I.cne
  have tracked : ∀ {a : Addr} {h' : Heap}, (∃ o, s.heap.get? a = some o ∧ H a = none) → Heap.SameBut a s.heap h' → HOk X.prog X.w H h' := fun {a h'} ha hs b ob e => by
    obtain ⟨_, _, hfree⟩ := ha
    refine (I.hok b ob e).stay (fun c w' hc q => (hs.2 c ?_).trans q) (fun _ q => q) fun _ _ q => q
    rintro rfl
    rcases hc with rfl | hc
    · rw [hfree] at e; cases e
    · rw [hfree] at hc; cases hc
  rcases hx with hk | hk
  · refine wpAny_storeName_local hk hn (fun h' hn' hs => ?_) hcls
    obtain ⟨oL, _, _, hoL, _⟩ := id hn
    refine h _ ⟨I.ok, I.os, I.bare, ⟨fun b o e n hb hx => ?_, fun b o e n hb hx => ?_, I.base.free, fun b o e hx => ?_, I.base.tups, I.base.frzs, I.base.tbls⟩, ⟨_, hn', fun j y v' e1 e2 e3 => ?_⟩, fun y c e => ?_, I.free, I.freeC, fun p hp => ?_, tracked ⟨oL, hoL, I.free⟩ hs, by simpa using I.len⟩ ⟨_, hs, .inl rfl⟩
    · exact (hs.2 b (Nat.ne_of_lt (Nat.lt_of_lt_of_le (Heap.lt_size e) I.ok.above))).trans (I.base.keep b o e n hb hx)
    · obtain ⟨sl, e1⟩ := I.base.slot b o e n hb hx
      exact ⟨sl, (hs.2 b (Nat.ne_of_lt (Nat.lt_of_lt_of_le (Heap.lt_size e) I.ok.above))).trans e1⟩
    · obtain ⟨o', e1⟩ := I.base.there b o e hx
      exact ⟨o', (hs.2 b (Nat.ne_of_lt (Nat.lt_of_lt_of_le (Heap.lt_size e) I.ok.above))).trans e1⟩
    · by_cases hj : j = i
      · subst hj
        rw [hi] at e1; cases e1
        rw [List.getElem?_set_self hiσ] at e2
        cases e2
        exact ⟨u, r, .inl ⟨hk, by simp⟩⟩
      · rw [List.getElem?_set_ne (Ne.symm hj)] at e2
        obtain ⟨u', r', q⟩ := hl j y v' e1 e2 e3
        refine ⟨u', r', ?_⟩
        rcases q with ⟨k, e⟩ | ⟨k, c, e, z⟩
        · refine .inl ⟨k, ?_⟩
          have : y ≠ x := fun e => hj (nodup_ix hN e1 (e ▸ hi))
          simp [this, e]
        · exact .inr ⟨k, c, e, z.sameBut hs (cne y c e)⟩
    · obtain ⟨w', z⟩ := I.cell y c e
      exact ⟨w', z.sameBut hs (cne y c e)⟩
    · obtain ⟨e, n, ne, nf, d⟩ := I.pin p hp
      exact ⟨(hs.2 p.1 ne).trans e, n, ne, nf, d⟩
  · have hfn : X.fn x = true := by
      rcases hf with z | z
      · exact z
      · rw [z] at hk; cases hk
    obtain ⟨c, hc⟩ := I.ok.has x (.inl hk)
    obtain ⟨w', z⟩ := I.cell x c hc
    refine wpAny_storeName_cell I.ok.kind hk hc z (fun h' hc' hs => ?_)
    obtain ⟨oc, hoc, hocd⟩ := id z
    refine h { s with heap := h' } ⟨I.ok, I.os, I.bare, ⟨fun b o e n hb hx => ?_, fun b o e n hb hx => ?_, I.base.free, fun b o e hx => ?_, I.base.tups, I.base.frzs, I.base.tbls⟩, ⟨m, hn.sameBut hs (Ne.symm (cne x c hc)), fun j y v' e1 e2 e3 => ?_⟩, fun y c' e => ?_, I.free, I.freeC, fun p hp => ?_, tracked ⟨oc, hoc, I.freeC x c hc⟩ hs, by simpa using I.len⟩ ⟨c, hs, .inr hc⟩
    · exact (hs.2 b (Nat.ne_of_lt (Nat.lt_of_lt_of_le (Heap.lt_size e) (I.ok.cab x c hfn hc)))).trans (I.base.keep b o e n hb hx)
    · obtain ⟨sl, e1⟩ := I.base.slot b o e n hb hx
      exact ⟨sl, (hs.2 b (Nat.ne_of_lt (Nat.lt_of_lt_of_le (Heap.lt_size e) (I.ok.cab x c hfn hc)))).trans e1⟩
    · obtain ⟨o', e1⟩ := I.base.there b o e hx
      exact ⟨o', (hs.2 b (Nat.ne_of_lt (Nat.lt_of_lt_of_le (Heap.lt_size e) (I.ok.cab x c hfn hc)))).trans e1⟩
    · by_cases hj : j = i
      · subst hj
        rw [hi] at e1; cases e1
        rw [List.getElem?_set_self hiσ] at e2
        cases e2
        exact ⟨u, r, .inr ⟨.inl hk, c, hc, hc'⟩⟩
      · rw [List.getElem?_set_ne (Ne.symm hj)] at e2
        obtain ⟨u', r', q⟩ := hl j y v' e1 e2 e3
        refine ⟨u', r', ?_⟩
        rcases q with q | ⟨k, c', e, z'⟩
        · exact .inl q
        · refine .inr ⟨k, c', e, z'.sameBut hs ?_⟩
          rintro rfl
          exact hj (nodup_ix hN e1 (I.ok.inj _ _ _ e hc ▸ hi))
    · by_cases hcc : c' = c
      · subst hcc; exact ⟨_, hc'⟩
      · obtain ⟨w2, z2⟩ := I.cell y c' e
        exact ⟨w2, z2.sameBut hs hcc⟩
    · obtain ⟨e, n, ne, nf, d⟩ := I.pin p hp
      refine ⟨(hs.2 p.1 ?_).trans e, n, ne, nf, d⟩
      intro q
      rw [q, hoc] at e
      have q' : oc = p.2 := Option.some.inj e
      exact d w' (by rw [← q']; exact hocd)
theorem store_ok {M : Model} {A : Around} {E : Value → Shared → Prop} {i : Nat} {x : Str} {v : V} {u : Value} {Q : Unit → Shared → Prop} (I : Inv X pins σ H s) (hN : X.N.Nodup) (hi : X.N[i]? = some x) (hx : Loc X.env.scope x) (r : RelV v u)
    (h : ∀ s', Inv X pins (σ.set i (some v)) H s' → Q () s') (hf : X.fn x = true ∨ X.env.scope.names.lookup x = some .local := by first | exact .inl rfl | exact .inr rfl | assumption) : wpAny M A (storeName X.env x u) Q E s :=
  store_ok2 I hN hi hx r (fun s' I' _ => h s' I') hf
theorem Inv.call' {s' : Shared} {ch : List Addr} (I : Inv X pins σ H s) (ho : s'.os = s.os) (u : Un (frs X.stack) ch H H' s.heap s'.heap) (hok : HOk X.prog X.w H' s'.heap) (hg : AllBare s'.gens)
    (hch : ∀ b ∈ ch, (b ∈ X.ex ∨ X.s₀.heap.objs.size ≤ b) ∧ b ≠ X.env.locals ∧ (∀ x c, X.env.cells.lookup x = some c → c ≠ b) ∧ ∀ p ∈ X.pn ++ pins, p.1 ≠ b) : Inv X pins σ H' s' := by
  obtain ⟨h', g', d', t', o'⟩ := s'
  have e : o' = s.os := ho
  subst e
  exact I.call (g' := g') (t' := t') (d' := d') u hok hg hch
end
abbrev XK := Value → Option Addr → Hp → Prop
abbrev St := List (Option V)
abbrev VK := V → Hp → Prop
abbrev TE := St → Hp → VK → Prop
abbrev TT := St → Hp → (Bool → Hp → Prop) → Prop
abbrev TA := St → Hp → (List V → Hp → Prop) → Prop
structure Ends where
  nx : St → Hp → Prop
  rt : VK
  bk : St → Hp → Prop := fun _ _ => False
  ct : St → Hp → Prop := fun _ _ => False
abbrev TS := Ends → St → Hp → Prop
def EP (X : Cx) (pins : List (Addr × Obj)) (σ : St) (Q : VK) (u : Value) (s' : Shared) : Prop := ∃ v H', Inv X pins σ H' s' ∧ RelV v u ∧ Q v H'
def TP (X : Cx) (pins : List (Addr × Obj)) (σ : St) (Q : Bool → Hp → Prop) (b : Bool) (s' : Shared) : Prop := ∃ H', Inv X pins σ H' s' ∧ Q b H'
def AP (X : Cx) (pins : List (Addr × Obj)) (σ : St) (Q : List V → Hp → Prop) (us : List Value) (s' : Shared) : Prop := ∃ vs H', Inv X pins σ H' s' ∧ Vals vs us ∧ Q vs H'
def SP (X : Cx) (pins : List (Addr × Obj)) (D : Ends) (f : Flow) (s' : Shared) : Prop :=
  match f with
  | .next => ∃ σ' H', Inv X pins σ' H' s' ∧ D.nx σ' H'
  | .brk => ∃ σ' H', Inv X pins σ' H' s' ∧ D.bk σ' H'
  | .cont => ∃ σ' H', Inv X pins σ' H' s' ∧ D.ct σ' H'
  | .ret u => ∃ v σ' H', Inv X pins σ' H' s' ∧ RelV v u ∧ D.rt v H'
def PE (X : Cx) (e : Expr) (t : TE) : Prop :=
  ∀ (pins : List (Addr × Obj)) (s : Shared) (σ : St) (H : Hp) (Q : VK), Inv X pins σ H s → t σ H Q → wpAny (model X.prog X.w) X.A (eval e X.env) (EP X pins σ Q) X.xe s
def PT (X : Cx) (e : Expr) (t : TT) : Prop :=
  ∀ (pins : List (Addr × Obj)) (s : Shared) (σ : St) (H : Hp) (Q : Bool → Hp → Prop), Inv X pins σ H s → t σ H Q → wpAny (model X.prog X.w) X.A (isTrue e X.env (eval e X.env)) (TP X pins σ Q) X.xe s
def PW (X : Cx) (e : Expr) (t : TT) : Prop :=
  ∀ (whole : Sem Value) (pins : List (Addr × Obj)) (s : Shared) (σ : St) (H : Hp) (Q : Bool → Hp → Prop), Inv X pins σ H s → t σ H Q → wpAny (model X.prog X.w) X.A (isTrue e X.env whole) (TP X pins σ Q) X.xe s
theorem PW.pt {X : Cx} {e : Expr} {t : TT} (h : PW X e t) : PT X e t := h _
def PA (X : Cx) (es : List Expr) (t : TA) : Prop :=
  ∀ (pos : Pos) (pins : List (Addr × Obj)) (s : Shared) (σ : St) (H : Hp) (Q : List V → Hp → Prop), Inv X pins σ H s → t σ H Q → wpAny (model X.prog X.w) X.A (spliced (backTo pos (starEach es X.env))) (AP X pins σ Q) X.xe s
def PS (X : Cx) (st : Stmt) (t : TS) : Prop :=
  ∀ (pins : List (Addr × Obj)) (s : Shared) (σ : St) (H : Hp) (D : Ends), Inv X pins σ H s → t D σ H → wpAny (model X.prog X.w) X.A (exec st X.env) (SP X pins D) X.xe s
def PSs (X : Cx) (st : List Stmt) (t : TS) : Prop :=
  ∀ (pins : List (Addr × Obj)) (s : Shared) (σ : St) (H : Hp) (D : Ends), Inv X pins σ H s → t D σ H → wpAny (model X.prog X.w) X.A (execs st X.env) (SP X pins D) X.xe s
theorem thn {α : Type} {t : Sem α} {Q Q' : α → Shared → Prop} {M : Model} {A : Around} {E : Value → Shared → Prop} {s : Shared} (h : wpAny M A t Q E s) (hQ : ∀ a s, Q a s → Q' a s) : wpAny M A t Q' E s := wpAny_mono h hQ fun _ _ x => x
end L2
namespace L2
open PySem PySem.Spec PyProof.Rows
section
variable {X : Cx}
theorem bin {a b : Expr} {ta tb : TE} (ha : PE X a ta) (hb : PE X b tb) {pins : List (Addr × Obj)} {s : Shared} {σ : St} {H : Hp} {R : V → V → Hp → Prop} (I : Inv X pins σ H s) (h : ta σ H fun x H1 => tb σ H1 fun y H2 => R x y H2)
    {α : Type} {Q : α → Shared → Prop} {f : Value → Value → Sem α}
    (hf : ∀ v u s2 x y H2, Inv X pins σ H2 s2 → RelV x v → RelV y u → R x y H2 → wpAny (model X.prog X.w) X.A (f v u) Q X.xe s2) :
    wpAny (model X.prog X.w) X.A (eval a X.env) (fun v s₁ => wpAny (model X.prog X.w) X.A (eval b X.env) (fun u s₂ => wpAny (model X.prog X.w) X.A (f v u) Q X.xe s₂) X.xe s₁) X.xe s := by
  refine thn (ha pins s σ H _ I h) fun v s1 ⟨x, H1, I1, r1, q1⟩ => ?_
  refine thn (hb pins s1 σ H1 _ I1 q1) fun u s2 ⟨y, H2, I2, r2, q2⟩ => ?_
  exact hf v u s2 x y H2 I2 r1 r2 q2
def tVar (i : Nat) : TE := fun σ H Q => ∃ v, σ[i]? = some (some v) ∧ Q v H
def tC (v : V) : TE := fun _ H Q => Q v H
theorem pe_var {i : Nat} {x : Str} {pos : Pos} (hN : X.N[i]? = some x) (hv : Vis X.env.scope x) (hd : (x == ("__debug__" : Str)) = false := by decide) (hcd : (x == ("__classdict__" : Str)) = false := by decide) : PE X (.Name x pos) (tVar i) := by
  intro pins s σ H Q I h
  obtain ⟨v, e, h⟩ := h
  obtain ⟨m, hn, hl⟩ := I.loc
  obtain ⟨u, r, l⟩ := hl i x v hN e hv
  have fin : EP X pins σ Q u s := ⟨v, H, I, r, h⟩
  rcases l with ⟨hk, hm⟩ | ⟨hk, c, hc, hcell⟩
  · exact wpAny_Name (wpAny_loadName_local I.ok.kind hk hn hm fin) hd
  · rcases hk with hk | hk
    · exact wpAny_Name (wpAny_loadName_cell I.ok.kind hk hc hcell fin) hd
    · exact wpAny_Name (wpAny_loadName_free I.ok.kind hk hc hcell fin hcd) hd
theorem pe_int {i j pos} : PE X (.Constant (.int i) j pos) (tC (.int i)) := fun _ _ _ H _ I h => wpAny_Constant_int ⟨.int i, H, I.tok _, ⟨_, rfl⟩, h⟩
theorem pe_bl {b j pos} : PE X (.Constant (.bool b) j pos) (tC (.bl b)) := fun _ _ _ H _ I h => Constant_bool ⟨.bl b, H, I, rfl, h⟩
def Gl (X : Cx) (x : Str) : Prop := X.env.kindOf x = some .globalImplicit
theorem ld_glob {E : Value → Shared → Prop} {pins : List (Addr × Obj)} {s : Shared} {σ : St} {H : Hp} {x : Str} {u : Value} {pos : Pos} {Q : Value → Shared → Prop} (I : Inv X pins σ H s) (hg : Gl X x) (hm : X.mg x = some u) (h : Q u s)
    (hd : (x == ("__debug__" : Str)) = false := by decide) : wpAny (model X.prog X.w) X.A (eval (.Name x pos) X.env) Q E s :=
  Calls.Name_function_global I.ok.kind hg (Calls.loadGlobal_global (by rw [I.ok.glob]; exact I.mod.glob.keeps I.bk) hm h) hd
theorem ld_blt {E : Value → Shared → Prop} {pins : List (Addr × Obj)} {s : Shared} {σ : St} {H : Hp} {x : Str} {u : Value} {pos : Pos} {Q : Value → Shared → Prop} (I : Inv X pins σ H s) (hg : Gl X x) (hm : X.mg x = none) (hv : bootBuiltins x = some u) (h : Q u s)
    (hn : x ≠ "__name__" := by decide) (hd : (x == ("__debug__" : Str)) = false := by decide) : wpAny (model X.prog X.w) X.A (eval (.Name x pos) X.env) Q E s := by
  obtain ⟨mb, h1, h2⟩ := I.mod.blt
  exact Calls.Name_function_global I.ok.kind hg (Calls.loadGlobal_builtin (by rw [I.ok.glob]; exact I.mod.glob.keeps I.bk) hm (by rw [I.ok.blt]; exact h1.keeps I.bk) ((h2 x hn).trans hv) h) hd
theorem pe_bltn {x : Str} {v : V} {u : Value} {pos : Pos} (hg : Gl X x) (hm : X.mg x = none) (hv : bootBuiltins x = some u) (r : RelV v u) (hn : x ≠ "__name__" := by decide) (hd : (x == ("__debug__" : Str)) = false := by decide) : PE X (.Name x pos) (tC v) :=
  fun _ _ _ H _ I h => ld_blt I hg hm hv ⟨v, H, I, r, h⟩ hn hd
variable {a b : Expr} {ta tb : TE} {pos : Pos}
theorem nobehind (b : Expr) {op : CmpOp} (h : op ≠ .In) (h2 : op ≠ .NotIn) : behindInMarks op b = false := by
  have e1 : (op == CmpOp.In) = false := by cases op <;> first | rfl | exact absurd rfl h
  have e2 : (op == CmpOp.NotIn) = false := by cases op <;> first | rfl | exact absurd rfl h2
  cases b <;> simp [behindInMarks, e1, e2]
variable {tA tB' : TT} {rest : List Expr}
def tOr (t u : TT) : TT := fun σ H Q => t σ H fun c H1 => if c = true then Q true H1 else u σ H1 Q
def tNot (t : TT) : TT := fun σ H Q => t σ H fun c H1 => Q (!c) H1
theorem pw_or1 (ha : PT X a tA) : PW X (.BoolOp .Or [a] pos) tA := by
  intro wh pins s σ H Q I h
  refine isTrue_or (thn (ha pins s σ H Q I h) fun c s1 e => ?_)
  cases c with
  | false => exact isTrue_or_nil e
  | true => exact e
theorem pw_or (ha : PT X a tA) (hb : PW X (.BoolOp .Or (b :: rest) pos) tB') : PW X (.BoolOp .Or (a :: b :: rest) pos) (tOr tA tB') := by
  intro wh pins s σ H Q I h
  refine isTrue_or (thn (ha pins s σ H _ I h) fun c s1 ⟨H1, I1, q1⟩ => ?_)
  cases c with
  | true => exact ⟨H1, I1, q1⟩
  | false => exact hb wh pins s1 σ H1 Q I1 q1
theorem pt_not (ha : PT X a tA) : PT X (.UnaryOp .Not a pos) (tNot tA) := by
  intro pins s σ H Q I h
  exact isTrue_not (ha pins s σ H (fun c H1 => Q (!c) H1) I h)
def tAndV (ta tb : TE) : TE := fun σ H Q => ta σ H fun x H1 => ∃ c, x = .bl c ∧ if c = true then tb σ H1 Q else Q (.bl false) H1
def tNotV (ta : TE) : TE := fun σ H Q => ta σ H fun x H1 => ∃ c, x = .bl c ∧ Q (.bl (!c)) H1
theorem pe_one {op} {t : TE} (h : PE X a t) : PE X (.BoolOp op [a] pos) t := fun pins s σ H Q I hw => BoolOp_one (h pins s σ H Q I hw)
theorem pe_and (ha : PE X a ta) (hb : PE X (.BoolOp .And (b :: rest) pos) tb) : PE X (.BoolOp .And (a :: b :: rest) pos) (tAndV ta tb) := by
  intro pins s σ H Q I h
  refine BoolOp_and (thn (ha pins s σ H _ I h) fun v s1 ⟨x, H1, I1, r1, q1⟩ => ?_)
  obtain ⟨c, rfl, q1⟩ := q1
  cases r1
  refine wpAny_truthy_bool ?_
  cases c with
  | true => exact hb pins s1 σ H1 Q I1 q1
  | false => exact ⟨.bl false, H1, I1, rfl, q1⟩
theorem pe_not (ha : PE X a ta) : PE X (.UnaryOp .Not a pos) (tNotV ta) := by
  intro pins s σ H Q I h
  refine UnaryOp_ (thn (ha pins s σ H _ I h) fun v s1 ⟨x, H1, I1, r1, q1⟩ => ?_)
  obtain ⟨c, rfl, q1⟩ := q1
  cases r1
  exact not_of (wpAny_truthy_bool ⟨.bl (!c), H1, I1, rfl, q1⟩)
def tIf (t : TT) (ta tb : TE) : TE := fun σ H Q => t σ H fun c H1 => if c = true then ta σ H1 Q else tb σ H1 Q
theorem pe_ifExp {c : Expr} (hc : PT X c tA) (ha : PE X a ta) (hb : PE X b tb) : PE X (.IfExp c a b pos) (tIf tA ta tb) := by
  intro pins s σ H Q I h
  refine wpAny_IfExp (thn (hc pins s σ H _ I h) fun d s1 ⟨H1, I1, q1⟩ => ?_)
  cases d with
  | true => exact ha pins s1 σ H1 Q I1 q1
  | false => exact hb pins s1 σ H1 Q I1 q1
end
end L2
namespace L2
open PySem PySem.Spec PyProof.Rows
def SqL (K : PySem.W.Frag) (H : Hp) (a : Addr) (xs : List V) : Prop :=
  Rd H a (.lst xs) ∨
    ∃ (o : Obj) (its : Array Value) (n : Nat), K.lookup a = some o ∧ o.cls = .type "list" ∧ o.dict = none ∧ o.data = .seq its n ∧ its.size ≤ sizeLine ∧ Vals xs its.toList
def SqT (K : PySem.W.Frag) (H : Hp) (a : Addr) (xs : List V) : Prop :=
  Rd H a (.tup xs) ∨
    ∃ (o : Obj) (its : Array Value) (n : Nat), K.lookup a = some o ∧ o.cls = .type "tuple" ∧ o.data = .seq its n ∧ its.size ≤ sizeLine ∧ Vals xs its.toList
def absV : Value → Option V
  | .none => some .non
  | .bool b => some (.bl b)
  | .int i _ => some (.int i)
  | .str x _ => some (.str x)
  | .bytes b _ => some (.byt b)
  | .float b _ => some (.flt b)
  | .ref a => some (.ref a)
  | .type n => some (.ty n)
  | _ => none
theorem RelV.abs {x : V} {u : Value} (r : RelV x u) : absV u = some x := by
  cases x with
  | non => cases r; rfl
  | bl _ => cases r; rfl
  | int _ => obtain ⟨t, rfl⟩ := r; rfl
  | str _ => obtain ⟨t, rfl⟩ := r; rfl
  | byt _ => obtain ⟨t, rfl⟩ := r; rfl
  | flt _ => obtain ⟨t, rfl⟩ := r; rfl
  | ref _ => cases r; rfl
  | ty _ => cases r; rfl
theorem RelV.inj {x y : V} {u : Value} (r : RelV x u) (q : RelV y u) : x = y := Option.some.inj (r.abs.symm.trans q.abs)
theorem Vals.inj : ∀ {xs ys : List V} {us : List Value}, Vals xs us → Vals ys us → xs = ys
  | _, _, _, .nil, .nil => rfl
  | _, _, _, .cons r t, .cons r' t' => by rw [r.inj r', Vals.inj t t']
section
variable {X : Cx} {pins : List (Addr × Obj)} {σ : St} {H : Hp} {s : Shared} {a : Addr} {xs ys : List V}
theorem SqL.of {K : PySem.W.Frag} (h : H a = some (.lst xs)) : SqL K H a xs := .inl (.inl h)
theorem SqT.of {K : PySem.W.Frag} (h : H a = some (.tup xs)) : SqT K H a xs := .inl (.inl h)
theorem Inv.list (I : Inv X pins σ H s) (h : SqL X.K H a xs) : ∃ its : List Value, Vals xs its ∧ PlainL s.heap a its.toArray ∧ xs.length ≤ sizeLine := by
  rcases h with h | ⟨o, its, n, hk, hc, hd, hs, hz, r⟩
  · obtain ⟨z, its, n, r, e⟩ := h.ok I.hok
    exact ⟨its, r, ⟨_, n, e, rfl, rfl, rfl⟩, z⟩
  · refine ⟨its.toList, r, ⟨o, n, I.kIn a o hk, hc, hd, by simpa using hs⟩, ?_⟩
    have e := r.length
    simp only [Array.length_toList] at e
    lia
theorem Inv.tuple (I : Inv X pins σ H s) (h : SqT X.K H a xs) : ∃ its : List Value, Vals xs its ∧ IsTup s.heap a its.toArray ∧ xs.length ≤ sizeLine := by
  rcases h with h | ⟨o, its, n, hk, hc, hs, hz, r⟩
  · obtain ⟨z, its, r, p⟩ := h.ok I.hok
    exact ⟨its, r, p, z⟩
  · refine ⟨its.toList, r, ⟨o, I.kIn a o hk, hc, n, by simpa using hs⟩, ?_⟩
    have e := r.length
    simp only [Array.length_toList] at e
    lia
theorem Inv.list_inj (I : Inv X pins σ H s) (h : SqL X.K H a xs) (h' : SqL X.K H a ys) : xs = ys := by
  obtain ⟨its, r, ⟨o, n, e, _, _, d⟩, _⟩ := I.list h
  obtain ⟨its', r', ⟨o', n', e', _, _, d'⟩, _⟩ := I.list h'
  rw [e] at e'; cases e'
  rw [d] at d'
  injection d' with d1 _
  have : its = its' := by simpa using congrArg Array.toList d1
  subst this
  exact r.inj r'
theorem Inv.tuple_inj (I : Inv X pins σ H s) (h : SqT X.K H a xs) (h' : SqT X.K H a ys) : xs = ys := by
  obtain ⟨its, r, ⟨o, e, _, n, d⟩, _⟩ := I.tuple h
  obtain ⟨its', r', ⟨o', e', _, n', d'⟩, _⟩ := I.tuple h'
  rw [e] at e'; cases e'
  rw [d] at d'
  injection d' with d1 _
  have : its = its' := by simpa using congrArg Array.toList d1
  subst this
  exact r.inj r'
end
abbrev Cx.wish (X : Cx) (E : Value → Shared → Prop) : Cx := { X with xe := E }
abbrev Cx.nox (X : Cx) : Cx := X.wish fun _ _ => False
theorem Cx.Ok.wish {X : Cx} (ok : X.Ok) (E : Value → Shared → Prop) : (X.wish E).Ok :=
  ⟨ok.mod, ok.kind, ok.glob, ok.blt, ok.above, ok.inj, ok.has, ok.cab, ok.hd, ok.frames, ok.stk, ok.exf, ok.bs, ok.bsz, ok.noex, ok.exfs, ok.funs, ok.frf⟩
theorem Cx.Ok.unwish {X : Cx} {E : Value → Shared → Prop} (ok : (X.wish E).Ok) : X.Ok :=
  ⟨ok.mod, ok.kind, ok.glob, ok.blt, ok.above, ok.inj, ok.has, ok.cab, ok.hd, ok.frames, ok.stk, ok.exf, ok.bs, ok.bsz, ok.noex, ok.exfs, ok.funs, ok.frf⟩
section
variable {X : Cx} {pins : List (Addr × Obj)} {σ : St} {H : Hp} {s : Shared} {E : Value → Shared → Prop}
theorem Inv.wish (I : Inv X pins σ H s) (E : Value → Shared → Prop) : Inv (X.wish E) pins σ H s := ⟨I.ok.wish E, I.os, I.bare, I.base, I.loc, I.cell, I.free, I.freeC, I.pin, I.hok, I.len⟩
theorem Inv.unwish (I : Inv (X.wish E) pins σ H s) : Inv X pins σ H s := ⟨I.ok.unwish, I.os, I.bare, I.base, I.loc, I.cell, I.free, I.freeC, I.pin, I.hok, I.len⟩
theorem SP.unwish {D : Ends} {f : Flow} {s' : Shared} (h : SP (X.wish E) pins D f s') : SP X pins D f s' := by
  cases f with
  | next => obtain ⟨σ', H', I, q⟩ := h; exact ⟨σ', H', I.unwish, q⟩
  | brk => obtain ⟨σ', H', I, q⟩ := h; exact ⟨σ', H', I.unwish, q⟩
  | cont => obtain ⟨σ', H', I, q⟩ := h; exact ⟨σ', H', I.unwish, q⟩
  | ret u => obtain ⟨v, σ', H', I, r, q⟩ := h; exact ⟨v, σ', H', I.unwish, r, q⟩
theorem PE.nox {e : Expr} {t : TE} (h : PE X.nox e t) : PE X e t := fun pins s σ H Q I hw =>
  wpAny_mono (h pins s σ H Q (I.wish _) hw) (fun _ _ ⟨v, H', I', r, q⟩ => ⟨v, H', I'.unwish, r, q⟩) fun _ _ z => False.elim z
theorem PSs.nox {st : List Stmt} {t : TS} (h : PSs X.nox st t) : PSs X st t := fun pins s σ H D I hw =>
  wpAny_mono (h pins s σ H D (I.wish _) hw) (fun _ _ q => q.unwish) fun _ _ z => False.elim z
end
section
variable {X : Cx} {st : Stmt} {rest : List Stmt} {t u : TS} {e : Expr} {te : TE} {pos : Pos}
def tNext : TS := fun D σ H => D.nx σ H
def tSeq (t u : TS) : TS := fun D σ H => t { D with nx := u D } σ H
theorem pss_nil : PSs X [] tNext := fun _ _ σ H _ I h => wpAny_execs_nil ⟨σ, H, I, h⟩
theorem pss_cons (h1 : PS X st t) (h2 : PSs X rest u) : PSs X (st :: rest) (tSeq t u) := by
  intro pins s σ H D I h
  refine wpAny_execs_cons (thn (h1 pins s σ H { D with nx := u D } I h) fun f s1 q => ?_)
  cases f with
  | next =>
    obtain ⟨σ', H', I', q⟩ := q
    exact h2 pins s1 σ' H' D I' q
  | ret v => exact q
  | brk => exact q
  | cont => exact q
theorem pss_one (h1 : PS X st t) : PSs X [st] t := by
  intro pins s σ H D I h
  refine wpAny_execs_cons (thn (h1 pins s σ H D I h) fun f s1 q => ?_)
  cases f with
  | next => exact wpAny_execs_nil q
  | ret v => exact q
  | brk => exact q
  | cont => exact q
theorem Inv.quiet {pins : List (Addr × Obj)} {σ : St} {H : Hp} {s : Shared} (I : Inv X pins σ H s) : interactive X.env = false := by simp [interactive, I.ok.kind]
def tDrop (te : TE) : TS := fun D σ H => te σ H fun _ H1 => D.nx σ H1
theorem ps_expr (he : PE X e te) (hs : swapsWith e none pos.line X.env = pure false := by rfl) : PS X (.Expr e pos) (tDrop te) := by
  intro pins s σ H D I h
  exact wpAny_Expr_any (thn (he pins s σ H _ I h) fun v s1 ⟨x, H1, I1, r1, q1⟩ => ⟨σ, H1, I1, q1⟩) I.quiet hs
def tRet (te : TE) : TS := fun D σ H => te σ H D.rt
theorem ps_ret (he : PE X e te) : PS X (.Return (some e) pos) (tRet te) := by
  intro pins s σ H D I h
  exact wpAny_Return_some (thn (he pins s σ H _ I h) fun v s1 ⟨x, H1, I1, r1, q1⟩ => ⟨x, σ, H1, I1, r1, q1⟩)
def tIfS (c : TT) (t u : TS) : TS := fun D σ H => c σ H fun b H1 => if b = true then t D σ H1 else u D σ H1
theorem ps_if {c : Expr} {a b : List Stmt} {tc : TT} (hc : PT X c tc) (ha : PSs X a t) (hb : PSs X b u) : PS X (.If c a b pos) (tIfS tc t u) := by
  intro pins s σ H D I h
  refine wpAny_If (thn (hc pins s σ H _ I h) fun d s1 ⟨H1, I1, q1⟩ => ?_)
  cases d with
  | true => exact ha pins s1 σ H1 D I1 q1
  | false => exact hb pins s1 σ H1 D I1 q1
end
abbrev TG := V → St → Hp → (St → Hp → Prop) → Prop
abbrev TGs := List V → St → Hp → (St → Hp → Prop) → Prop
def PG (X : Cx) (target : Expr) (t : TG) : Prop :=
  ∀ (pins : List (Addr × Obj)) (s : Shared) (σ : St) (H : Hp) (v : V) (u : Value) (Q : St → Hp → Prop), Inv X pins σ H s → RelV v u → t v σ H Q →
    wpAny (model X.prog X.w) X.A (assign target X.env u) (fun _ s' => ∃ σ' H', Inv X pins σ' H' s' ∧ Q σ' H') X.xe s
def PGs (X : Cx) (ts : List Expr) (t : TGs) : Prop :=
  ∀ (pins : List (Addr × Obj)) (s : Shared) (σ : St) (H : Hp) (vs : List V) (us : List Value) (Q : St → Hp → Prop), Inv X pins σ H s → Vals vs us → t vs σ H Q →
    wpAny (model X.prog X.w) X.A (assignInOrder ((assignEach ts X.env).map (·.2)) us) (fun _ s' => ∃ σ' H', Inv X pins σ' H' s' ∧ Q σ' H') X.xe s
section
variable {X : Cx} {pos : Pos}
def gName (i : Nat) : TG := fun v σ H Q => Q (σ.set i (some v)) H
theorem pg_name {i : Nat} {x : Str} (hN : X.N.Nodup) (hi : X.N[i]? = some x) (hx : Loc X.env.scope x) (hf : X.fn x = true ∨ X.env.scope.names.lookup x = some .local := by first | exact .inl rfl | exact .inr rfl | assumption) : PG X (.Name x pos) (gName i) := by
  intro pins s σ H v u Q I r h
  exact wpAny_assign_Name (store_ok I hN hi hx r (fun s' I' => ⟨_, H, I', h⟩) hf)
def gNil : TGs := fun vs σ H Q => vs = [] ∧ Q σ H
def gCons (t : TG) (u : TGs) : TGs := fun vs σ H Q => ∃ v r, vs = v :: r ∧ t v σ H fun σ' H' => u r σ' H' Q
theorem pgs_nil : PGs X [] gNil := by
  intro pins s σ H vs us Q I r h
  obtain ⟨e, h⟩ := h
  subst e
  cases r
  exact assignInOrder_nil ⟨σ, H, I, h⟩
theorem pgs_cons {e : Expr} {es : List Expr} {t : TG} {u : TGs} (h1 : PG X e t) (h2 : PGs X es u)
    (hs : (assignEach (e :: es) X.env).map (·.2) = assign e X.env :: (assignEach es X.env).map (·.2) := by rfl) : PGs X (e :: es) (gCons t u) := by
  intro pins s σ H vs us Q I r h
  obtain ⟨v, vr, e1, h⟩ := h
  subst e1
  cases r with
  | cons r rr =>
    rw [hs]
    refine assignInOrder_cons (thn (h1 pins s σ H _ _ _ I r h) fun _ s1 ⟨σ1, H1, I1, q1⟩ => ?_)
    exact h2 pins s1 σ1 H1 _ _ Q I1 rr q1
def gTup (K : PySem.W.Frag) (n : Nat) (t : TGs) : TG := fun v σ H Q => ∃ a xs, v = .ref a ∧ SqT K H a xs ∧ xs.length = n ∧ t xs σ H Q
theorem pg_tup {es : List Expr} {k : Nat} {t : TGs} {n : Nat} (hc : X.calm = true) (h : PGs X es t)
    (hn : (assignEach es X.env).length = n := by rfl) (hst : (assignEach es X.env).findIdx? (·.1) = none := by rfl) : PG X (.Tuple es k pos) (gTup X.K n t) := by
  intro pins s σ H v u Q I r hw
  obtain ⟨a, xs, e1, hq, hl, hw⟩ := hw
  subst e1
  cases r
  obtain ⟨its, rv, ht, hz⟩ := I.tuple hq
  refine assign_Tuple_tuple (I.ok.hd hc) ht (by simp [hn, ← hl, rv.length]) hst fun h' hx => ?_
  have I1 : Inv X pins σ H { s with heap := h' } := I.kept (t' := s.toks) fun b o e => hx b o (Nat.ne_of_lt (Heap.lt_size e)) e
  exact h pins _ σ H xs _ Q I1 (by simpa using rv) hw
def tAsg (te : TE) (g : TG) : TS := fun D σ H => te σ H fun x H1 => g x σ H1 D.nx
theorem ps_set {i : Nat} {x : Str} {e : Expr} {te : TE} {pos' : Pos} (hN : X.N.Nodup) (hi : X.N[i]? = some x) (hx : Loc X.env.scope x) (he : PE X e te) (hs : swapsWith e (some (.Name x pos')) pos.line X.env = pure false := by rfl) (hf : X.fn x = true ∨ X.env.scope.names.lookup x = some .local := by first | exact .inl rfl | exact .inr rfl | assumption) :
    PS X (.Assign [.Name x pos'] e pos) (tAsg te (gName i)) := by
  intro pins s σ H D I h
  refine wpAny_Assign_Name (thn (he pins s σ H _ I h) fun v s1 ⟨y, H1, I1, r1, q1⟩ => ?_) hs
  exact store_ok I1 hN hi hx r1 (fun s2 I2 => ⟨_, H1, I2, q1⟩) hf
end
section
variable {X : Cx} {pos : Pos}
end
structure It where
  go : Nat → Hp → Prop
  yld : Nat → Hp → V → Hp → Prop
  stop : Nat → Hp → Prop
def FpOk (X : Cx) (pins : List (Addr × Obj)) (H : Hp) (b : Addr) : Prop :=
  H b = none ∧ b ≠ X.env.locals ∧ b ∉ X.fs ∧ (b ∈ X.ex ∨ X.s₀.heap.objs.size ≤ b) ∧ (∀ x c, X.env.cells.lookup x = some c → c ≠ b) ∧ ∀ p ∈ X.pn ++ pins, p.1 ≠ b
theorem Inv.fpOk {X : Cx} {pins : List (Addr × Obj)} {σ : St} {H H' : Hp} {s : Shared} {b : Addr} (I : Inv X pins σ H s) (hb : s.heap.objs.size ≤ b) (hn : H' b = none) : FpOk X pins H' b := by
  refine ⟨hn, Nat.ne_of_gt (Nat.lt_of_lt_of_le I.lt hb), I.nofs hb, .inr (Nat.le_trans I.sz hb), fun x c e z => ?_, fun p hp z => ?_⟩
  · obtain ⟨v, q⟩ := I.cell x c e
    exact absurd (Nat.lt_of_lt_of_le q.lt (by rw [z]; exact hb)) (Nat.lt_irrefl _)
  · exact absurd (Nat.lt_of_lt_of_le (Heap.lt_size (I.pin p hp).1) (by rw [z]; exact hb)) (Nat.lt_irrefl _)
structure Turn (P : Program) (w : World) (K : PySem.W.Frag) (tg : Expr) (J : It) (fp : List Addr) (it : Addr) (tn : Nat → Heap → Prop) : Prop where
  mem : it ∈ fp
  obj : ∀ i h, tn i h → ∀ b ∈ fp, ∃ o, h.get? b = some o ∧ ∀ v, o.data ≠ .cell v
  keep : ∀ i h h', tn i h → (∀ b ∈ fp, ∀ o, h.get? b = some o → h'.get? b = some o) → tn i h'
  item : ∀ (X : Cx), X.prog = P → X.w = w → X.K = K → X.calm = true → ∀ (i : Nat) (pins : List (Addr × Obj)) (s : Shared) (σ : St) (H : Hp) (E : Value → Shared → Prop), Inv X pins σ H s → (∀ b ∈ fp, FpOk X pins H b) → tn i s.heap → J.go i H →
    wpAny (model P w) X.A (pyNext (.ref it)) (fun r s1 => ∃ u, r = some u ∧
      wpAny (model P w) X.A (letOwnedTupleGo tg (.ref it) u) (fun _ s2 => ∃ x H', Inv X pins σ H' s2 ∧ RelV x u ∧ J.yld i H x H' ∧ tn (i + 1) s2.heap ∧ ∀ b ∈ fp, H' b = none) E s1) E s
  done : ∀ (X : Cx), X.prog = P → X.w = w → X.K = K → X.calm = true → ∀ (i : Nat) (pins : List (Addr × Obj)) (s : Shared) (σ : St) (H : Hp) (E : Value → Shared → Prop), Inv X pins σ H s → (∀ b ∈ fp, FpOk X pins H b) → tn i s.heap → J.stop i H →
    wpAny (model P w) X.A (pyNext (.ref it)) (fun r s1 => r = none ∧ Inv X pins σ H s1) E s
  self : ∀ (A : Around) (i : Nat) (s : Shared) (Q : Value → Shared → Prop) (E : Value → Shared → Prop), tn i s.heap → Q (.ref it) s → wpAny (model P w) A (pyIter (.ref it)) Q E s
abbrev TI := St → Hp → (It → Hp → Prop) → Prop
def PIE (X : Cx) (pins : List (Addr × Obj)) (σ : St) (tg : Expr) (R : It → Hp → Prop) (itv : Value) (s2 : Shared) : Prop :=
  ∃ (it : Addr) (fp : List Addr) (tn : Nat → Heap → Prop) (J : It) (H' : Hp), itv = .ref it ∧ Inv X pins σ H' s2 ∧ Turn X.prog X.w X.K tg J fp it tn ∧ tn 0 s2.heap ∧ (∀ b ∈ fp, FpOk X pins H' b) ∧ R J H'
def PI (X : Cx) (tg iter : Expr) (wi : TI) : Prop :=
  ∀ (pins : List (Addr × Obj)) (s : Shared) (σ : St) (H : Hp) (R : It → Hp → Prop), Inv X pins σ H s → wi σ H R →
    wpAny (model X.prog X.w) X.A (eval iter X.env) (fun v s1 => wpAny (model X.prog X.w) X.A (pyIter v) (PIE X pins σ tg R) X.xe s1) X.xe s
theorem go_of {M : Model} {A : Around} {E : Value → Shared → Prop} {s : Shared} {tg : Expr} {it : Addr} {u : Value} {o : Obj} {n : String} {vs : Array Value} {Q : Unit → Shared → Prop} (ho : s.heap.get? it = some o) (hc : o.cls = .type n) (hd : o.data = .fields vs)
    (hn : ["enumerate", "zip", "dict_itemiterator", "dict_reverseitemiterator", "odict_iterator", "itertools.zip_longest", "itertools.pairwise"].contains n = false) (hQ : Q () s) : wpAny M A (letOwnedTupleGo tg (.ref it) u) Q E s := by
  unfold letOwnedTupleGo
  cases tg <;> first
    | exact wpAny_pure hQ
    | (cases u <;> first
        | exact wpAny_pure hQ
        | (refine wpAny_bind (wpAny_load ho ?_)
           rw [hc, hd]
           show wpAny M A (if (["enumerate", "zip", "dict_itemiterator", "dict_reverseitemiterator", "odict_iterator", "itertools.zip_longest", "itertools.pairwise"].contains n && vs[0]? == some (rawInt _)) = true then _ else _) Q E s
           rw [if_neg (by intro h; rw [hn, Bool.false_and] at h; cases h)]
           exact wpAny_pure hQ))
def Itl (K : PySem.W.Frag) (a : Addr) : It :=
  ⟨fun i H => ∃ xs x, SqL K H a xs ∧ xs[i]? = some x, fun i H x H' => H' = H ∧ ∀ xs, SqL K H a xs → xs[i]? = some x, fun i H => ∃ xs, SqL K H a xs ∧ xs.length ≤ i⟩
def Itt (K : PySem.W.Frag) (a : Addr) : It :=
  ⟨fun i H => ∃ xs x, SqT K H a xs ∧ xs[i]? = some x, fun i H x H' => H' = H ∧ ∀ xs, SqT K H a xs → xs[i]? = some x, fun i H => ∃ xs, SqT K H a xs ∧ xs.length ≤ i⟩
def Itr (lo : Int) (n : Nat) : It := ⟨fun i _ => i < n, fun i H x H' => H' = H ∧ x = .int (lo + i), fun i _ => n ≤ i⟩
theorem turn_list {P : Program} {w : World} {K : PySem.W.Frag} {tg : Expr} (a it : Addr) : Turn P w K tg (Itl K a) [it] it (fun i h => h.IsListIter it a i) where
  mem := by simp
  obj := fun i h st b hb => by
    have e : b = it := by simpa using hb
    subst e
    obtain ⟨o, e, c, d⟩ := st
    exact ⟨o, e, fun v z => by rw [d] at z; cases z⟩
  keep := fun i h h' st k => st.at fun o e => k it (by simp) o e
  item := by
    intro X hP hw hK hc i pins s σ H E I hf st hg
    subst hP hw hK
    obtain ⟨xs, x, hq, hx⟩ := hg
    obtain ⟨its, rv, p, hz⟩ := I.list hq
    obtain ⟨u, hu, ru⟩ := rv.get hx
    obtain ⟨f0, f1, f2, f3, f4, f5⟩ := hf it (by simp)
    refine wpAny_pyNext_list_item st p.isList (x := u) (by simpa using hu) fun h' st' sb => ?_
    have I1 : Inv X pins σ H { s with heap := h' } := I.turned (t' := s.toks) (fun b o hb e => (sb.2 b hb).trans e) f0 f1 f3 f4 f5
    obtain ⟨o, e, c, d⟩ := id st'
    exact ⟨u, rfl, go_of (s := { s with heap := h' }) e c d (by decide) ⟨x, H, I1, ru, ⟨rfl, fun ys hy => by rw [I.list_inj hy hq]; exact hx⟩, st', fun b hb => (hf b hb).1⟩⟩
  done := by
    intro X hP hw hK hc i pins s σ H E I hf st hg
    subst hP hw hK
    obtain ⟨xs, hq, hx⟩ := hg
    obtain ⟨its, rv, p, hz⟩ := I.list hq
    obtain ⟨f0, f1, f2, f3, f4, f5⟩ := hf it (by simp)
    have hl := rv.length
    exact wpAny_pyNext_list_end (I.ok.hd hc) st p.isList (by simp; lia) fun h' eb => ⟨rfl, I.turned (t' := s.toks) (fun b o hb e => eb b o hb e) f0 f1 f3 f4 f5⟩
  self := fun _ _ _ _ _ st h => wpAny_pyIter_listiter st h
theorem turn_tuple {P : Program} {w : World} {K : PySem.W.Frag} {tg : Expr} (a it : Addr) : Turn P w K tg (Itt K a) [it] it (fun i h => h.IsTupleIter it a i) where
  mem := by simp
  obj := fun i h st b hb => by
    have e : b = it := by simpa using hb
    subst e
    obtain ⟨o, e, c, d⟩ := st
    exact ⟨o, e, fun v z => by rw [d] at z; cases z⟩
  keep := fun i h h' st k => st.at fun o e => k it (by simp) o e
  item := by
    intro X hP hw hK hc i pins s σ H E I hf st hg
    subst hP hw hK
    obtain ⟨xs, x, hq, hx⟩ := hg
    obtain ⟨its, rv, p, hz⟩ := I.tuple hq
    obtain ⟨u, hu, ru⟩ := rv.get hx
    obtain ⟨f0, f1, f2, f3, f4, f5⟩ := hf it (by simp)
    refine wpAny_pyNext_tuple_item st (show s.heap.IsTuple a its.toArray from p) (x := u) (by simpa using hu) fun h' st' sb => ?_
    have I1 : Inv X pins σ H { s with heap := h' } := I.turned (t' := s.toks) (fun b o hb e => (sb.2 b hb).trans e) f0 f1 f3 f4 f5
    obtain ⟨o, e, c, d⟩ := id st'
    exact ⟨u, rfl, go_of (s := { s with heap := h' }) e c d (by decide) ⟨x, H, I1, ru, ⟨rfl, fun ys hy => by rw [I.tuple_inj hy hq]; exact hx⟩, st', fun b hb => (hf b hb).1⟩⟩
  done := by
    intro X hP hw hK hc i pins s σ H E I hf st hg
    subst hP hw hK
    obtain ⟨xs, hq, hx⟩ := hg
    obtain ⟨its, rv, p, hz⟩ := I.tuple hq
    obtain ⟨f0, f1, f2, f3, f4, f5⟩ := hf it (by simp)
    have hl := rv.length
    exact wpAny_pyNext_tuple_end (I.ok.hd hc) st (show s.heap.IsTuple a its.toArray from p) (by simp; lia) fun h' eb => ⟨rfl, I.turned (t' := s.toks) (fun b o hb e => eb b o hb e) f0 f1 f3 f4 f5⟩
  self := fun _ _ _ _ _ st h => wpAny_pyIter_tupleiter st h
theorem turn_range {P : Program} {w : World} {K : PySem.W.Frag} {tg : Expr} (it : Addr) (lo : Int) (n : Nat) : Turn P w K tg (Itr lo n) [it] it (fun i h => IsRangeIter h it (lo + (i : Nat) * 1) ((n : Int) - (i : Nat)) 1) where
  mem := by simp
  obj := fun i h st b hb => by
    have e : b = it := by simpa using hb
    subst e
    exact ⟨_, st, fun v z => by
      have z' : Data.fields _ = Data.cell v := z
      cases z'⟩
  keep := fun i h h' st k => k it (by simp) _ st
  item := by
    intro X hP hw hK hc i pins s σ H E I hf st hg
    subst hP hw hK
    obtain ⟨f0, f1, f2, f3, f4, f5⟩ := hf it (by simp)
    have W := Walks.range (prog := X.prog) (w := X.w) (I.ok.hd hc) it lo 1 n
    refine W.item i s _ _ hg st fun v h' tk hv st' kk => ?_
    obtain ⟨t, rfl⟩ := hv
    have I1 : Inv X pins σ H { s with heap := h', toks := tk } := I.turned (fun b o hb e => kk b o (by simpa using hb) e) f0 f1 f3 f4 f5
    refine ⟨_, rfl, go_of (s := { s with heap := h', toks := tk }) (n := "range_iterator") st' rfl rfl (by decide) ⟨.int (lo + i), H, I1, ⟨t, ?_⟩, ⟨rfl, rfl⟩, st', fun b hb => (hf b hb).1⟩⟩
    rw [Int.mul_one]
  done := by
    intro X hP hw hK hc i pins s σ H E I hf st hg
    subst hP hw hK
    obtain ⟨f0, f1, f2, f3, f4, f5⟩ := hf it (by simp)
    exact wpAny_pyNext_range_end (I.ok.hd hc) st (by have : n ≤ i := hg; lia) fun h' eb => ⟨rfl, I.turned (t' := s.toks) (fun b o hb e => eb b o hb e) f0 f1 f3 f4 f5⟩
  self := fun _ _ _ _ _ st h => wpAny_pyIter_rangeiter st h
end L2
namespace L2
open PySem PySem.Spec PyProof.Rows
section
variable {X : Cx} {tg : Expr}
theorem range_it {pins : List (Addr × Obj)} {σ : St} {H : Hp} {s : Shared} {R : It → Hp → Prop} {E : Value → Shared → Prop} {lo hi : Int} {t u v : Tok} {tk : Nat} (I : Inv X pins σ H s) (h1 : -(2 ^ 62) ≤ lo) (h2 : lo < 2 ^ 62) (h3 : -(2 ^ 62) ≤ hi) (h4 : hi < 2 ^ 62)
    (q : R (Itr lo (hi - lo).toNat) H) : wpAny (model X.prog X.w) X.A (pyIter (.ref s.heap.objs.size)) (PIE X pins σ tg R) E { s with heap := s.heap.push { cls := .type "range", data := .fields #[.int lo t, .int hi u, .int 1 v] }, toks := tk } := by
  refine wpAny_pyIter_range (IsRange.new ..) (small_one h1 h2 h3 h4) ?_
  have I1 : Inv X pins σ H { s with heap := s.heap.push { cls := .type "range", data := .fields #[.int lo t, .int hi u, .int 1 v] }, toks := tk } := I.kept fun b o e => Heap.get?_push_of_some _ e
  refine ⟨(s.heap.push { cls := .type "range", data := .fields #[.int lo t, .int hi u, .int 1 v] }).objs.size, [(s.heap.push { cls := .type "range", data := .fields #[.int lo t, .int hi u, .int 1 v] }).objs.size], _, _, H, rfl,
    I1.kept (t' := tk) fun b o e => Heap.get?_push_of_some _ e, turn_range _ lo (hi - lo).toNat, ?_, fun b hb => ?_, q⟩
  · have e1 : lo + ((0 : Nat) : Int) * 1 = lo := by simp
    have e2 : (((hi - lo).toNat : Nat) : Int) - ((0 : Nat) : Int) = Builtin.Range.rangeSize lo hi 1 := by rw [rangeSize_one]; split <;> lia
    show IsRangeIter _ _ (lo + ((0 : Nat) : Int) * 1) ((((hi - lo).toNat : Nat) : Int) - ((0 : Nat) : Int)) 1
    rw [e1, e2]
    exact Heap.get?_push_size _ rfl
  · have e : b = (s.heap.push { cls := .type "range", data := .fields #[.int lo t, .int hi u, .int 1 v] }).objs.size := by simpa using hb
    subst e
    exact I1.fpOk (Nat.le_refl _) (I1.hok.fresh (Nat.le_refl _))
def iRng1 (ta : TA) : TI := fun σ H R => ta σ H fun vs H1 => ∃ j : Int, vs = [.int j] ∧ -(2 ^ 62) ≤ j ∧ j < 2 ^ 62 ∧ R (Itr 0 j.toNat) H1
def iRng2 (ta : TA) : TI := fun σ H R => ta σ H fun vs H1 => ∃ i j : Int, vs = [.int i, .int j] ∧ (-(2 ^ 62) ≤ i ∧ i < 2 ^ 62 ∧ -(2 ^ 62) ≤ j ∧ j < 2 ^ 62) ∧ R (Itr i (j - i).toNat) H1
theorem pi_range1 {a : Expr} {ta : TA} {p pos : Pos} (hg : Gl X "range") (hm : X.mg "range" = none) (ha : PA X [a] ta) (hs : starEach [a] X.env = [(false, eval a X.env)] := by rfl) : PI X tg (.Call (.Name "range" p) [a] [] pos) (iRng1 ta) := by
  intro pins s σ H R I h
  refine Call_ (ld_blt I hg hm boot_range (PyProof.Rows.callWith_type1 (thn (ha pos pins s σ H _ I h) fun us s1 ⟨vs, H1, I1, r1, q1⟩ => ?_) hs rfl))
  obtain ⟨j, e, q1, q2, q⟩ := q1
  subst e
  cases r1 with
  | cons r rr =>
    cases rr
    obtain ⟨t, rfl⟩ := r
    exact call_range_1 (range_it I1 (by lia) (by lia) q1 q2 (by simpa using q))
theorem pi_range2 {a b : Expr} {ta : TA} {p pos : Pos} (hg : Gl X "range") (hm : X.mg "range" = none) (ha : PA X [a, b] ta) (hs : starEach [a, b] X.env = [(false, eval a X.env), (false, eval b X.env)] := by rfl) (hs2 : starEach [b] X.env = [(false, eval b X.env)] := by rfl) :
    PI X tg (.Call (.Name "range" p) [a, b] [] pos) (iRng2 ta) := by
  intro pins s σ H R I h
  refine Call_ (ld_blt I hg hm boot_range (PyProof.Rows.callWith_type1 (thn (ha pos pins s σ H _ I h) fun us s1 ⟨vs, H1, I1, r1, q1⟩ => ?_) (by rw [hs, hs2]) (by rw [hs2]; rfl)))
  obtain ⟨i, j, e, ⟨q1, q2, q3, q4⟩, q⟩ := q1
  subst e
  cases r1 with
  | cons r rr =>
    cases rr with
    | cons r' rr =>
      cases rr
      obtain ⟨t, rfl⟩ := r
      obtain ⟨t', rfl⟩ := r'
      exact call_range_2 (range_it I1 q1 q2 q3 q4 q)
def tFor (wi : TI) (g : TG) (tb : TS) : TS := fun D σ H => wi σ H fun J H1 => ∃ W : Nat → Nat → St → Hp → Prop, (∃ m, W 0 m σ H1) ∧ ∀ i m σ H, W i m σ H →
  (J.stop i H ∧ D.nx σ H) ∨ (J.go i H ∧ ∃ N : St → Hp → Prop, (∀ σ' H', N σ' H' → ∃ m', m' < m ∧ W (i + 1) m' σ' H') ∧ ∀ x H', J.yld i H x H' → g x σ H' fun σ2 H2 => tb { D with nx := N, ct := N, bk := D.nx } σ2 H2)
def pinsAt (fp : List Addr) (h : Heap) : List (Addr × Obj) := fp.filterMap fun b => (h.get? b).map fun o => (b, o)
theorem mem_pinsAt {fp : List Addr} {h : Heap} {b : Addr} {o : Obj} (hb : b ∈ fp) (e : h.get? b = some o) : (b, o) ∈ pinsAt fp h := List.mem_filterMap.mpr ⟨b, hb, by rw [e]; rfl⟩
theorem of_pinsAt {fp : List Addr} {h : Heap} {p : Addr × Obj} (hp : p ∈ pinsAt fp h) : p.1 ∈ fp ∧ h.get? p.1 = some p.2 := by
  obtain ⟨b, hb, e⟩ := List.mem_filterMap.mp hp
  cases q : h.get? b with
  | none => rw [q] at e; cases e
  | some o =>
    rw [q] at e
    have e' : (b, o) = p := Option.some.inj e
    subst e'
    exact ⟨hb, q⟩
theorem Inv.pinned {pins : List (Addr × Obj)} {σ : St} {H : Hp} {s : Shared} {fp : List Addr} (I : Inv X pins σ H s) (hf : ∀ b ∈ fp, FpOk X pins H b) (ho : ∀ b ∈ fp, ∃ o, s.heap.get? b = some o ∧ ∀ v, o.data ≠ .cell v) : Inv X (pins ++ pinsAt fp s.heap) σ H s :=
  I.pins_of fun p hp => (List.mem_append.mp hp).elim (fun z => I.pin p (List.mem_append_right _ z)) fun z => by
    obtain ⟨hb, e⟩ := of_pinsAt z
    obtain ⟨f0, f1, f2, _⟩ := hf p.1 hb
    obtain ⟨o, e', d⟩ := ho p.1 hb
    rw [e] at e'; cases e'
    exact ⟨e, f0, f1, f2, d⟩
theorem Inv.unpinned {pins pl : List (Addr × Obj)} {σ : St} {H : Hp} {s : Shared} (I : Inv X (pins ++ pl) σ H s) : Inv X pins σ H s := I.pins_of fun p hp => I.pin p (List.mem_append_right _ (List.mem_append_left _ hp))
theorem ps_for {iter : Expr} {body : List Stmt} {wi : TI} {g : TG} {tb : TS} {pos : Pos} (hp : PassesOwn (model X.prog X.w) X.A X.env X.xe) (hc : X.calm = true) (hi : PI X tg iter wi) (hg : PG X tg g) (hb : PSs X body tb)
    (hs : ∀ x, foldedSetIterable iter X.env x = pure x := by intro _; rfl) : PS X (.For tg iter body [] pos) (tFor wi g tb) := by
  intro pins s σ H D I h
  refine wpAny_For (thn (hi pins s σ H _ I h) fun v s1 h1 => thn h1 fun itv s2 h2 => ?_) hs
  obtain ⟨it, fp, tn, J, H2, e, I2, T, st2, f2, W, ⟨m0, w0⟩, turn⟩ := h2
  subst e
  -- what stays true of the iterator's objects through the loop
  have stat : ∀ {H' : Hp}, (∀ b ∈ fp, H' b = none) → ∀ b ∈ fp, FpOk X pins H' b := fun hn b hb => ⟨hn b hb, (f2 b hb).2⟩
  refine codeAny_forLoop_any (fun n s' => ∃ i σ' H', Inv X pins σ' H' s' ∧ tn i s'.heap ∧ (∀ b ∈ fp, H' b = none) ∧ W i n σ' H') ?_ m0 ⟨0, σ, H2, I2, st2, fun b hb => (f2 b hb).1, w0⟩
  rintro n s3 ⟨i, σ3, H3, I3, st3, fr3, w3⟩
  rcases turn i n σ3 H3 w3 with ⟨stop, qn⟩ | ⟨go, N, hN, step⟩
  · refine wpAny_passesOwn hp (thn (T.done X rfl rfl rfl hc i pins s3 σ3 H3 X.xe I3 (stat fr3) st3 stop) fun r s4 ⟨hr, I4⟩ => ?_)
    subst hr
    exact wpAny_execs_nil ⟨σ3, H3, I4, qn⟩
  · refine wpAny_passesOwn hp (thn (T.item X rfl rfl rfl hc i pins s3 σ3 H3 X.xe I3 (stat fr3) st3 go) fun r s4 ⟨u, hr, h4⟩ => ?_)
    subst hr
    refine wpAny_passesOwn hp (thn h4 fun _ s5 ⟨x, H5, I5, r5, y5, st5, fr5⟩ => ?_)
    have I5' := I5.pinned (stat fr5) (T.obj _ _ st5)
    refine wpAny_passesOwn hp (thn (hg _ s5 σ3 H5 x u _ I5' r5 (step x H5 y5)) fun _ s6 ⟨σ6, H6, I6, q6⟩ => ?_)
    refine wpAny_passesOwn hp (thn (hb _ s6 σ6 H6 _ I6 q6) fun f s7 q7 => ?_)
    have again : ∀ {σ7 : St} {H7 : Hp}, Inv X (pins ++ pinsAt fp s5.heap) σ7 H7 s7 → N σ7 H7 → ∃ m, m < n ∧ ∃ i σ' H', Inv X pins σ' H' s7 ∧ tn i s7.heap ∧ (∀ b ∈ fp, H' b = none) ∧ W i m σ' H' := fun {σ7 H7} I7 n7 => by
      obtain ⟨m', hm, w7⟩ := hN σ7 H7 n7
      refine ⟨m', hm, i + 1, σ7, H7, I7.unpinned, T.keep _ _ _ st5 fun b hb o e => (I7.pin (b, o) (List.mem_append_right _ (List.mem_append_right _ (mem_pinsAt hb e)))).1, fun b hb => ?_, w7⟩
      obtain ⟨o, e, d⟩ := T.obj _ _ st5 b hb
      exact (I7.pin (b, o) (List.mem_append_right _ (List.mem_append_right _ (mem_pinsAt hb e)))).2.1
    cases f with
    | next => obtain ⟨σ7, H7, I7, n7⟩ := q7; exact again I7 n7
    | cont => obtain ⟨σ7, H7, I7, n7⟩ := q7; exact again I7 n7
    | brk => obtain ⟨σ7, H7, I7, q7⟩ := q7; exact ⟨σ7, H7, I7.unpinned, q7⟩
    | ret v => obtain ⟨x7, σ7, H7, I7, r7, q7⟩ := q7; exact ⟨x7, σ7, H7, I7.unpinned, r7, q7⟩
end
end L2
namespace L2
open PySem PySem.Spec PyProof.Rows
abbrev R2 := V → V → Hp → VK → Prop
def OpR (X : Cx) (f : Value → Value → Sem Value) (r : R2) : Prop :=
  ∀ (pins : List (Addr × Obj)) (s : Shared) (σ : St) (H : Hp) (x y : V) (v u : Value) (Q : VK), Inv X pins σ H s → RelV x v → RelV y u → r x y H Q →
    wpAny (model X.prog X.w) X.A (f v u) (EP X pins σ Q) X.xe s
def CallR (X : Cx) (f : Value) (r : List V → Hp → VK → Prop) : Prop :=
  ∀ (pins : List (Addr × Obj)) (s : Shared) (σ : St) (H : Hp) (xs : List V) (us : List Value) (Q : VK), Inv X pins σ H s → Vals xs us → r xs H Q →
    wpAny (model X.prog X.w) X.A (call f us) (EP X pins σ Q) X.xe s
def TruR (X : Cx) (r : V → Hp → (Bool → Hp → Prop) → Prop) : Prop :=
  ∀ (pins : List (Addr × Obj)) (s : Shared) (σ : St) (H : Hp) (x : V) (v : Value) (Q : Bool → Hp → Prop), Inv X pins σ H s → RelV x v → r x H Q →
    wpAny (model X.prog X.w) X.A (truthy v) (TP X pins σ Q) X.xe s
def tOp (r : R2) (ta tb : TE) : TE := fun σ H Q => ta σ H fun x H1 => tb σ H1 fun y H2 => r x y H2 Q
def rI (C : Int → Int → Prop) (g : Int → Int → V) : R2 := fun x y H Q => ∃ i j, x = .int i ∧ y = .int j ∧ C i j ∧ Q (g i j) H
def rI0 (g : Int → Int → V) : R2 := fun x y H Q => ∃ i j, x = .int i ∧ y = .int j ∧ Q (g i j) H
section
variable {X : Cx} {a b c : Expr} {ta tb tc : TE} {pos : Pos}
theorem binT (ha : PE X a ta) (hb : PE X b tb) {pins : List (Addr × Obj)} {s : Shared} {σ : St} {H : Hp} {R : V → V → Hp → Prop} (I : Inv X pins σ H s)
    (h : ta σ H fun x H1 => tb σ H1 fun y H2 => R x y H2) {Q : Value → Shared → Prop} {f : Value → Value → Sem Value}
    (hf : ∀ v u s2 x y H2, Inv X pins σ H2 s2 → RelV x v → RelV y u → R x y H2 → wpAny (model X.prog X.w) X.A (f v u) Q X.xe s2) :
    wpAny (model X.prog X.w) X.A (eval a X.env) (fun v s₁ => wpAny (model X.prog X.w) X.A (eval b X.env) (fun u s₂ => wpAny (model X.prog X.w) X.A (f v u) Q X.xe s₂) X.xe s₁) X.xe s := by
  refine thn (ha pins s σ H _ I h) fun v s1 ⟨x, H1, I1, r1, q1⟩ => ?_
  refine thn (hb pins s1 σ H1 _ I1 q1) fun u s2 ⟨y, H2, I2, r2, q2⟩ => ?_
  exact hf v u s2 x y H2 I2 r1 r2 q2
theorem pe_op {op : Operator} {r : R2} (ho : OpR X (binaryOp op) r) (ha : PE X a ta) (hb : PE X b tb) : PE X (.BinOp a op b pos) (tOp r ta tb) := by
  intro pins s σ H Q I h
  exact wpAny_BinOp (binT ha hb I h fun v u s2 x y H2 I2 rx ry q => ho pins s2 σ H2 x y v u Q I2 rx ry q)
theorem opI {f : Value → Value → Sem Value} {C : Int → Int → Prop} {g : Int → Int → Int}
    (rule : ∀ (i j : Int) (t u : Tok) (s : Shared) (Q : Value → Shared → Prop) (E : Value → Shared → Prop), C i j → Q (.int (g i j) s.toks) { s with toks := s.toks + 1 } → wpAny (model X.prog X.w) X.A (f (.int i t) (.int j u)) Q E s) :
    OpR X f (rI C fun i j => .int (g i j)) := by
  intro pins s σ H x y v u Q I rx ry h
  obtain ⟨i, j, rfl, rfl, hc, q⟩ := h
  obtain ⟨t, rfl⟩ := rx
  obtain ⟨t', rfl⟩ := ry
  exact rule i j t t' s _ _ hc ⟨.int (g i j), H, I.tok _, ⟨_, rfl⟩, q⟩
theorem opI0 {f : Value → Value → Sem Value} {g : Int → Int → Int}
    (rule : ∀ (i j : Int) (t u : Tok) (s : Shared) (Q : Value → Shared → Prop) (E : Value → Shared → Prop), Q (.int (g i j) s.toks) { s with toks := s.toks + 1 } → wpAny (model X.prog X.w) X.A (f (.int i t) (.int j u)) Q E s) :
    OpR X f (rI0 fun i j => .int (g i j)) := by
  intro pins s σ H x y v u Q I rx ry h
  obtain ⟨i, j, rfl, rfl, q⟩ := h
  obtain ⟨t, rfl⟩ := rx
  obtain ⟨t', rfl⟩ := ry
  exact rule i j t t' s _ _ ⟨.int (g i j), H, I.tok _, ⟨_, rfl⟩, q⟩
theorem opB0 {f : Value → Value → Sem Value} {g : Int → Int → Bool}
    (rule : ∀ (i j : Int) (t u : Tok) (s : Shared) (Q : Value → Shared → Prop) (E : Value → Shared → Prop), Q (.bool (g i j)) s → wpAny (model X.prog X.w) X.A (f (.int i t) (.int j u)) Q E s) :
    OpR X f (rI0 fun i j => .bl (g i j)) := by
  intro pins s σ H x y v u Q I rx ry h
  obtain ⟨i, j, rfl, rfl, q⟩ := h
  obtain ⟨t, rfl⟩ := rx
  obtain ⟨t', rfl⟩ := ry
  exact rule i j t t' s _ _ ⟨.bl (g i j), H, I, rfl, q⟩
def CDiv (i j : Int) : Prop := 0 < j ∧ j < 1073741824
def CPow (i j : Int) : Prop := 0 ≤ j ∧ j ≤ 1000000 ∧ i.natAbs < 2 ^ 64
def CMul (i j : Int) : Prop := (-(2 ^ 64) < i ∧ i < 2 ^ 64) ∨ (-(2 ^ 64) < j ∧ j < 2 ^ 64)
theorem CMul.ok {i j : Int} (h : CMul i j) : IntMulOk i j := by
  rcases h with ⟨h1, h2⟩ | ⟨h1, h2⟩
  · exact .of_left (intBits_le_64 h1 h2)
  · exact .of_right (intBits_le_64 h1 h2)
theorem two_pow_nn (k : Nat) : (0 : Int) ≤ 2 ^ k := by
  rw [two_pow_cast]
  exact Int.natCast_nonneg _
theorem op_add : OpR X (binaryOp .Add) (rI0 fun i j => .int (i + j)) := opI0 fun _ _ _ _ _ _ _ q => add_int q
theorem op_sub : OpR X (binaryOp .Sub) (rI0 fun i j => .int (i - j)) := opI0 fun _ _ _ _ _ _ _ q => sub_int q
theorem op_mul : OpR X (binaryOp .Mult) (rI CMul fun i j => .int (i * j)) := opI fun _ _ _ _ _ _ _ hc q => mul_int q hc.ok
theorem op_fdiv : OpR X (binaryOp .FloorDiv) (rI CDiv fun i j => .int (i / j)) := opI fun i j _ _ _ _ _ hc q => by
  have h1 : (0 : Int) < j := hc.1
  have h2 : j < 1073741824 := hc.2
  exact floordiv_int (by lia) (by rw [Int.fdiv_eq_ediv_of_nonneg i (by lia)]; exact q) (.inl (PyProof.noPylong_small (by lia)))
theorem op_mod : OpR X (binaryOp .Mod) (rI (fun _ j => 0 < j) fun i j => .int (i % j)) := opI fun i j _ _ _ _ _ hc q => by
  have h1 : (0 : Int) < j := hc
  exact mod_int' (by lia) (by rw [Int.fmod_eq_emod_of_nonneg i (by lia)]; exact q)
theorem op_pow : OpR X (binaryOp .Pow) (rI CPow fun i j => .int (i ^ j.toNat)) := opI fun _ _ _ _ _ _ _ hc q => pow_int_small hc.1 hc.2.1 hc.2.2 q
theorem op_shl : OpR X (binaryOp .LShift) (rI CPow fun i j => .int (i * 2 ^ j.toNat)) := opI fun _ _ _ _ _ _ _ hc q => lshift_int_small hc.1 hc.2.1 hc.2.2 q
theorem op_shr : OpR X (binaryOp .RShift) (rI (fun _ j => 0 ≤ j) fun i j => .int (i / 2 ^ j.toNat)) := opI fun i j _ _ _ _ _ hc q =>
  rshift_int hc (by rw [Int.fdiv_eq_ediv_of_nonneg i (two_pow_nn _)]; exact q)
theorem op_and : OpR X (binaryOp .BitAnd) (rI0 fun i j => .int (Builtin.bitAnd i j)) := opI0 fun _ _ _ _ _ _ _ q => and_int q
theorem op_or : OpR X (binaryOp .BitOr) (rI0 fun i j => .int (Builtin.bitOr i j)) := opI0 fun _ _ _ _ _ _ _ q => or_int q
end
def scal : V → V → Bool
  | .non, .non => true | .non, .int _ => true | .int _, .non => true | .non, .bl _ => true | .bl _, .non => true | .non, .str _ => true | .str _, .non => true
  | .int _, .int _ => true | .bl _, .bl _ => true | .str _, .str _ => true | .byt _, .byt _ => true
  | .int _, .str _ => true | .str _, .int _ => true | .bl _, .str _ => true | .str _, .bl _ => true
  | _, _ => false
def rEq : R2 := fun x y H Q => scal x y = true ∧ Q (.bl (decide (x = y))) H
def rNe : R2 := fun x y H Q => scal x y = true ∧ Q (.bl (!decide (x = y))) H
theorem dec_int {i j : Int} : decide (V.int i = V.int j) = (i == j) := by
  rw [Bool.eq_iff_iff]
  simp
theorem dec_bl {i j : Bool} : decide (V.bl i = V.bl j) = (i == j) := by
  rw [Bool.eq_iff_iff]
  simp
theorem dec_str {i j : Str} : decide (V.str i = V.str j) = (i == j) := by
  rw [Bool.eq_iff_iff]
  simp
theorem dec_byt {i j : Array UInt8} : decide (V.byt i = V.byt j) = (i.toList == j.toList) := by
  rw [Bool.eq_iff_iff]
  cases i
  cases j
  simp
section
variable {X : Cx} {a b c : Expr} {ta tb tc : TE} {pos : Pos}
theorem fin_bl {pins : List (Addr × Obj)} {σ : St} {H : Hp} {s : Shared} {Q : VK} {k k' : Bool} (I : Inv X pins σ H s) (q : Q (.bl k) H) (e : k = k') : EP X pins σ Q (.bool k') s := by
  subst e
  exact ⟨.bl k, H, I, rfl, q⟩
theorem op_eq : OpR X (compareOp .Eq) rEq := by
  intro pins s σ H x y v u Q I rx ry h
  obtain ⟨hs, q⟩ := h
  cases x with
  | non =>
    cases rx
    cases y with
    | non => cases ry; exact PySem.EqNone.eq_none_none (fin_bl I q (by simp))
    | bl j => cases ry; exact PySem.EqNone.eq_none_bool (fin_bl I q (by simp))
    | int j => obtain ⟨t', rfl⟩ := ry; exact PySem.EqNone.eq_none_int (fin_bl I q (by simp))
    | str j => obtain ⟨t', rfl⟩ := ry; exact PySem.EqNone.eq_none_str (fin_bl I q (by simp))
    | _ => exact absurd (show false = true from hs) Bool.false_ne_true
  | bl i =>
    cases rx
    cases y with
    | non => cases ry; exact PySem.EqNone.eq_bool_none (fin_bl I q (by simp))
    | bl j => cases ry; exact eq_bool (fin_bl I q dec_bl)
    | str j => obtain ⟨t', rfl⟩ := ry; exact PySem.EqMixed.eq_bool_str (fin_bl I q (by simp))
    | _ => exact absurd (show false = true from hs) Bool.false_ne_true
  | int i =>
    obtain ⟨t, rfl⟩ := rx
    cases y with
    | non => cases ry; exact PySem.EqNone.eq_int_none (fin_bl I q (by simp))
    | int j => obtain ⟨t', rfl⟩ := ry; exact eq_int (fin_bl I q dec_int)
    | str j => obtain ⟨t', rfl⟩ := ry; exact PySem.EqMixed.eq_int_str (fin_bl I q (by simp))
    | _ => exact absurd (show false = true from hs) Bool.false_ne_true
  | str i =>
    obtain ⟨t, rfl⟩ := rx
    cases y with
    | non => cases ry; exact PySem.EqNone.eq_str_none (fin_bl I q (by simp))
    | bl j => cases ry; exact PySem.EqMixed.eq_str_bool (fin_bl I q (by simp))
    | int j => obtain ⟨t', rfl⟩ := ry; exact PySem.EqMixed.eq_str_int (fin_bl I q (by simp))
    | str j => obtain ⟨t', rfl⟩ := ry; exact eq_str (fin_bl I q dec_str)
    | _ => exact absurd (show false = true from hs) Bool.false_ne_true
  | byt i =>
    obtain ⟨t, rfl⟩ := rx
    cases y with
    | byt j => obtain ⟨t', rfl⟩ := ry; exact PySem.W.eq_bytes (fin_bl I q dec_byt)
    | _ => exact absurd (show false = true from hs) Bool.false_ne_true
  | _ => cases y <;> exact absurd (show false = true from hs) Bool.false_ne_true
theorem op_ne : OpR X (compareOp .NotEq) rNe := by
  intro pins s σ H x y v u Q I rx ry h
  obtain ⟨hs, q⟩ := h
  cases x with
  | non =>
    cases rx
    cases y with
    | non => cases ry; exact PySem.EqNone.ne_none_none (fin_bl I q (by simp))
    | bl j => cases ry; exact PySem.EqNone.ne_none_bool (fin_bl I q (by simp))
    | int j => obtain ⟨t', rfl⟩ := ry; exact PySem.EqNone.ne_none_int (fin_bl I q (by simp))
    | str j => obtain ⟨t', rfl⟩ := ry; exact PySem.EqNone.ne_none_str (fin_bl I q (by simp))
    | _ => exact absurd (show false = true from hs) Bool.false_ne_true
  | bl i =>
    cases rx
    cases y with
    | non => cases ry; exact PySem.EqNone.ne_bool_none (fin_bl I q (by simp))
    | bl j => cases ry; exact ne_bool (fin_bl I q (congrArg not dec_bl))
    | str j => obtain ⟨t', rfl⟩ := ry; exact PySem.EqMixed.ne_bool_str (fin_bl I q (by simp))
    | _ => exact absurd (show false = true from hs) Bool.false_ne_true
  | int i =>
    obtain ⟨t, rfl⟩ := rx
    cases y with
    | non => cases ry; exact PySem.EqNone.ne_int_none (fin_bl I q (by simp))
    | int j => obtain ⟨t', rfl⟩ := ry; exact ne_int (fin_bl I q (congrArg not dec_int))
    | str j => obtain ⟨t', rfl⟩ := ry; exact PySem.EqMixed.ne_int_str (fin_bl I q (by simp))
    | _ => exact absurd (show false = true from hs) Bool.false_ne_true
  | str i =>
    obtain ⟨t, rfl⟩ := rx
    cases y with
    | non => cases ry; exact PySem.EqNone.ne_str_none (fin_bl I q (by simp))
    | bl j => cases ry; exact PySem.EqMixed.ne_str_bool (fin_bl I q (by simp))
    | int j => obtain ⟨t', rfl⟩ := ry; exact PySem.EqMixed.ne_str_int (fin_bl I q (by simp))
    | str j => obtain ⟨t', rfl⟩ := ry; exact ne_str (fin_bl I q (congrArg not dec_str))
    | _ => exact absurd (show false = true from hs) Bool.false_ne_true
  | byt i =>
    obtain ⟨t, rfl⟩ := rx
    cases y with
    | byt j => obtain ⟨t', rfl⟩ := ry; exact PySem.W.ne_bytes (fin_bl I q (congrArg not dec_byt))
    | _ => exact absurd (show false = true from hs) Bool.false_ne_true
  | _ => cases y <;> exact absurd (show false = true from hs) Bool.false_ne_true
theorem op_lt : OpR X (compareOp .Lt) (rI0 fun i j => .bl (decide (i < j))) := opB0 fun _ _ _ _ _ _ _ q => lt_int q
theorem op_gt : OpR X (compareOp .Gt) (rI0 fun i j => .bl (decide (j < i))) := opB0 fun _ _ _ _ _ _ _ q => gt_int q
theorem op_ge : OpR X (compareOp .GtE) (rI0 fun i j => .bl (decide (j ≤ i))) := opB0 fun _ _ _ _ _ _ _ q => ge_int q
theorem pe_cmpR {op : CmpOp} {r : R2} (ho : OpR X (compareOp op) r) (ha : PE X a ta) (hb : PE X b tb) (hm : behindInMarks op b = false) : PE X (.Compare a [op] [b] pos) (tOp r ta tb) := by
  intro pins s σ H Q I h
  exact wpAny_Compare1 (binT ha hb I h fun v u s2 x y H2 I2 rx ry q => ho pins s2 σ H2 x y v u Q I2 rx ry q) hm
def tTest (t : TE) : TT := fun σ H Q => t σ H fun x H' => ∃ k, x = .bl k ∧ Q k H'
theorem pt_cmpR {op : CmpOp} {r : R2} (ho : OpR X (compareOp op) r) (ha : PE X a ta) (hb : PE X b tb) (hm : behindInMarks op b = false) : PT X (.Compare a [op] [b] pos) (tTest (tOp r ta tb)) := by
  intro pins s σ H Q I h
  refine wpAny_isTrue_Compare1 (thn (ha pins s σ H _ I h) fun v s1 ⟨x, H1, I1, r1, q1⟩ => thn (hb pins s1 σ H1 _ I1 q1) fun u s2 ⟨y, H2, I2, r2, q2⟩ =>
    thn (ho pins s2 σ H2 x y v u _ I2 r1 r2 q2) fun c s3 ⟨z, H3, I3, r3, k, e, q3⟩ => ?_) hm
  subst e
  cases r3
  exact wpAny_truthy_bool ⟨H3, I3, q3⟩
def TruV (K : PySem.W.Frag) (x : V) (H : Hp) (k : Bool) : Prop :=
  match x with
  | .non => k = false
  | .bl b => k = b
  | .int i => k = (i != 0)
  | .str y => y.length ≤ sizeLine ∧ k = ((y.length : Int) != 0)
  | .byt y => y.size ≤ sizeLine ∧ k = ((y.size : Int) != 0)
  | .ref p => (∃ xs, SqL K H p xs ∧ k = !xs.isEmpty) ∨ (∃ xs, SqT K H p xs ∧ k = !xs.isEmpty) ∨ ∃ kvs, H p = some (.dK kvs) ∧ k = !kvs.isEmpty
  | _ => False
theorem isEmpty_kv {κ : Type} {kvs : List (κ × V)} {vs : List (κ × Value)} (r : KV kvs vs) : (!vs.isEmpty) = !kvs.isEmpty := by
  cases r <;> rfl
theorem isEmpty_of {xs : List V} {its : List Value} (r : Vals xs its) : (!its.toArray.isEmpty) = !xs.isEmpty := by
  cases r <;> simp
theorem line63 : (sizeLine : Nat) < 2 ^ 63 := by rw [sizeLine_eq]; decide
theorem tru_ok : TruR X (fun x H Q => ∃ k, TruV X.K x H k ∧ Q k H) := by
  intro pins s σ H x v Q I rx h
  obtain ⟨k, e, q⟩ := h
  have hl := line63
  have hs : sizeLine = 16777216 := sizeLine_eq
  cases x with
  | non =>
    cases rx
    have e' : k = false := e
    subst e'
    exact truthy_none ⟨H, I, q⟩
  | bl b =>
    cases rx
    have e' : k = b := e
    subst e'
    exact wpAny_truthy_bool ⟨H, I, q⟩
  | int i =>
    obtain ⟨t, rfl⟩ := rx
    have e' : k = (i != 0) := e
    subst e'
    exact PySem.P.truthy_int ⟨H, I, q⟩
  | str y =>
    obtain ⟨t, rfl⟩ := rx
    obtain ⟨hy, e'⟩ : y.length ≤ sizeLine ∧ k = ((y.length : Int) != 0) := e
    subst e'
    exact PySem.P.truthy_str (by lia) ⟨H, I.tok _, q⟩
  | byt y =>
    obtain ⟨t, rfl⟩ := rx
    obtain ⟨hy, e'⟩ : y.size ≤ sizeLine ∧ k = ((y.size : Int) != 0) := e
    subst e'
    exact PySem.W.truthy_bytes (by lia) ⟨H, I.tok _, q⟩
  | ref p =>
    cases rx
    have e' : (∃ xs, SqL X.K H p xs ∧ k = !xs.isEmpty) ∨ (∃ xs, SqT X.K H p xs ∧ k = !xs.isEmpty) ∨ ∃ kvs, H p = some (.dK kvs) ∧ k = !kvs.isEmpty := e
    rcases e' with ⟨xs, hx, e'⟩ | ⟨xs, hx, e'⟩ | ⟨kvs, hx, e'⟩
    · subst e'
      obtain ⟨its, r, pl, hz⟩ := I.list hx
      have hlen := r.length
      exact wpAny_truthy_list pl.isList (by simp only [List.size_toArray]; lia) ⟨H, I.tok _, by rw [isEmpty_of r]; exact q⟩
    · subst e'
      obtain ⟨its, r, pl, hz⟩ := I.tuple hx
      have hlen := r.length
      exact truthy_tuple pl (by simp only [List.size_toArray]; lia) ⟨H, I.tok _, by rw [isEmpty_of r]; exact q⟩
    · subst e'
      obtain ⟨hz, hS, vs, r, m⟩ : kvs.length ≤ sizeLine ∧ (p == sysModules) = false ∧ ∃ vs, KV kvs vs ∧ s.heap.DictOf (mixKind X.prog X.w) p vs := I.hok p _ hx
      have hlen : kvs.length = vs.length := Paired.length r
      exact wpAny_truthy_dict hS m (by lia) ⟨H, I.tok _, by rw [isEmpty_kv r]; exact q⟩
  | _ => exact (show False from e).elim
theorem pt_truth (ha : PE X a ta) (he : ∀ whole, isTrue a X.env whole = (do let v ← whole; standAt a.pos; holding [v] (truthy v))) :
    PT X a (fun σ H Q => ta σ H fun x H' => ∃ k, TruV X.K x H' k ∧ Q k H') := by
  intro pins s σ H Q I h
  exact isTrue_plain (thn (ha pins s σ H _ I h) fun v s1 ⟨x, H1, I1, r1, q1⟩ => tru_ok pins s1 σ H1 x v Q I1 r1 q1) (he _)
theorem vals1 {x : V} {us : List Value} (r : Vals [x] us) : ∃ u, us = [u] ∧ RelV x u := by
  cases r with
  | cons r1 r2 => cases r2; exact ⟨_, rfl, r1⟩
theorem vals2 {x y : V} {us : List Value} (r : Vals [x, y] us) : ∃ u w', us = [u, w'] ∧ RelV x u ∧ RelV y w' := by
  cases r with
  | cons r1 r2 =>
    cases r2 with
    | cons r3 r4 => cases r4; exact ⟨_, _, rfl, r1, r3⟩
theorem call_max2 (hc : X.calm = true) : CallR X (.builtin "max") (fun xs H Q => ∃ i j, xs = [.int i, .int j] ∧ Q (.int (if j > i then j else i)) H) := by
  intro pins s σ H xs us Q I r h
  obtain ⟨i, j, rfl, q⟩ := h
  obtain ⟨u, w', rfl, ⟨t, rfl⟩, ⟨t', rfl⟩⟩ := vals2 r
  refine max_two_ints (I.ok.hd hc) fun h' tk k => ⟨_, H, I.kept k, ?_, q⟩
  by_cases hj : j > i
  · rw [if_pos hj, if_pos hj]; exact ⟨_, rfl⟩
  · rw [if_neg hj, if_neg hj]; exact ⟨_, rfl⟩
def LenV (K : PySem.W.Frag) (x : V) (H : Hp) (n : Nat) : Prop :=
  match x with
  | .str y => y.length ≤ sizeLine ∧ n = y.length
  | .byt y => y.size ≤ sizeLine ∧ n = y.size
  | .ref p => (∃ xs, SqL K H p xs ∧ n = xs.length) ∨ ∃ xs, SqT K H p xs ∧ n = xs.length
  | _ => False
theorem call_len : CallR X (.builtin "len") (fun xs H Q => ∃ x n, xs = [x] ∧ LenV X.K x H n ∧ Q (.int n) H) := by
  intro pins s σ H xs us Q I r h
  obtain ⟨x, n, rfl, e, q⟩ := h
  obtain ⟨u, rfl, rx⟩ := vals1 r
  have hl := line63
  have hs : sizeLine = 16777216 := sizeLine_eq
  cases x with
  | str y =>
    obtain ⟨t, rfl⟩ := rx
    obtain ⟨hy, e'⟩ : y.length ≤ sizeLine ∧ n = y.length := e
    subst e'
    exact len_str (by lia) ⟨.int _, H, I.tok _, ⟨_, rfl⟩, q⟩
  | byt y =>
    obtain ⟨t, rfl⟩ := rx
    obtain ⟨hy, e'⟩ : y.size ≤ sizeLine ∧ n = y.size := e
    subst e'
    exact PySem.W.len_bytes (by lia) ⟨.int _, H, I.tok _, ⟨_, rfl⟩, q⟩
  | ref p =>
    cases rx
    have e' : (∃ xs, SqL X.K H p xs ∧ n = xs.length) ∨ ∃ xs, SqT X.K H p xs ∧ n = xs.length := e
    rcases e' with ⟨xs, hx, e'⟩ | ⟨xs, hx, e'⟩
    · subst e'
      obtain ⟨its, r', pl, hz⟩ := I.list hx
      have hlen := r'.length
      exact Calls.call_len_list pl.isList (by simp only [List.size_toArray]; lia) ⟨.int xs.length, H, I.tok _, ⟨_, by simp only [List.size_toArray]; rw [hlen]⟩, q⟩
    · subst e'
      obtain ⟨its, r', pl, hz⟩ := I.tuple hx
      have hlen := r'.length
      exact len_tuple pl (by simp only [List.size_toArray]; lia) ⟨.int xs.length, H, I.tok _, ⟨_, by simp only [List.size_toArray]; rw [hlen]⟩, q⟩
  | _ => exact (show False from e).elim
end
end L2
namespace L2
open PySem PySem.Spec PyProof.Rows
structure ObjM (h : Heap) (x dx C : Addr) (mA : Str → Option Value) : Prop where
  obj : h.get? x = some (PySem.W.instObj C dx)
  ns : h.Ns1 dx mA
  ne : dx ≠ x
theorem lookIn_ns {h : Heap} {dx : Addr} {mA : Str → Option Value} (n : h.Ns1 dx mA) : ∃ od, h.get? dx = some od ∧ ∀ name, PySem.W.lookIn name od = some (mA name) := by
  obtain ⟨o, es, ep, ho, hd, hk, _, hm⟩ := n
  refine ⟨o, ho, fun name => ?_⟩
  have e := hm name
  unfold nsFind findBy at e
  rw [← Array.find?_toList] at e
  unfold PySem.W.lookIn
  rw [hd]
  dsimp only
  split
  · rename_i y q
    rw [q] at e
    exact congrArg some e
  · rename_i q
    rw [q] at e
    have a : es.toList.any (·.refKey) = false := by
      rw [List.any_eq_false]
      intro y hy
      obtain ⟨z, t, hkey⟩ := hk y (Array.mem_toList_iff.mp hy)
      simp [DictEntry.refKey, hkey]
    have a' : ¬ es.toList.any (·.refKey) = true := by rw [a]; exact Bool.false_ne_true
    rw [if_neg a']
    exact congrArg some e
theorem ObjM.look {h : Heap} {x dx C : Addr} {mA : Str → Option Value} (I : ObjM h x dx C mA) : ∃ od, PySem.W.InstAt h x (PySem.W.instObj C dx) C (some od) ∧ ∀ name, PySem.W.lookIn name od = some (mA name) :=
  let ⟨od, ho, hl⟩ := lookIn_ns I.ns
  ⟨od, ⟨I.obj, rfl, rfl, ho⟩, hl⟩
section
variable {prog : Program} {w : World} {A : Around} {E : Value → Shared → Prop} {s : Shared} {K : PySem.W.Frag} {x dx C f : Addr} {mA : Str → Option Value} {name : Str} {v : Value}
theorem get_meth {pl : Sem Bool} {Q : Value × List Value → Shared → Prop} (X : K.In s.heap) (I : ObjM s.heap x dx C mA) (hg : PySem.W.plainGet K C name = true)
    (hf : PySem.W.findIn K (.ref C) name = some (some (.ref f))) (ht : PySem.W.isFn K (.ref f) = true) (hv : mA name = none) (h : Q (.ref f, [.ref x]) s) :
    wpAny (model prog w) A (getMethod (.ref x) name pl) Q E s := by
  obtain ⟨od, J, hl⟩ := I.look
  exact PySem.W.method_fn X J (PySem.W.plainGet_of hg).1 (PySem.W.plainGet_of hg).2 hf (beq_iff_eq.mp ht) (by show (PySem.W.lookIn name od).map (·.isSome) = some false; rw [hl, hv]; rfl) h
end
theorem RelO.none_of {o : Option Value} (r : RelO none o) : o = none := by
  cases o with
  | none => rfl
  | some u => exact (show False from r).elim
section
variable {P : Program} {w : World} {H H' : Hp} {h h' : Heap} {a C dx : Addr} {fs fs' : List (Str × V)}
theorem ins_get (hok : HOk P w H h) (e : H a = some (.ins C dx fs)) : ∃ mA, ObjM h a dx C mA ∧ (∀ f, RelO (fs.lookup f) (mA f)) ∧ PySem.Within mA (fs.map (·.1)) ∧ fs.length ≤ 1000 ∧ H dx = some (.own a) := by
  obtain ⟨d, z, ne, ob, mA, n, r, q⟩ := (show ObjOk P w H h a (.ins C dx fs) from hok a _ e)
  exact ⟨mA, ⟨ob, n, ne⟩, r, q, z, d⟩
end
structure Cls (K : PySem.W.Frag) (C : Addr) : Prop where
  pg : PySem.W.plainGet K C Str.empty = true
  hd : PySem.W.hasDictIn K C = true
  po : PySem.W.plainOver K C = true
  sa : PySem.W.findIn K (.ref C) "__setattr__" = some (some (.builtin "object.__setattr__"))
theorem Cls.get {K : PySem.W.Frag} {C : Addr} (c : Cls K C) (f : Str) : PySem.W.plainGet K C f = true := c.pg
structure Meth (K : PySem.W.Frag) (C : Addr) (m : Str) (f : Addr) : Prop where
  at_ : PySem.W.findIn K (.ref C) m = some (some (.ref f))
  fn : PySem.W.isFn K (.ref f) = true
  kp : PySem.W.keepIn K (.ref f) = true
section
variable {X : Cx} {pins : List (Addr × Obj)} {σ : St} {H : Hp} {s : Shared} {a C dx : Addr} {fs : List (Str × V)} {f : Str} {v : V} {A : Around} {E : Value → Shared → Prop}
theorem getmeth_ok {m : Str} {g : Addr} {pl : Sem Bool} {Q : Value × List Value → Shared → Prop} (I : Inv X pins σ H s) (e : H a = some (.ins C dx fs)) (c : Cls X.K C) (k : Meth X.K C m g) (l : fs.lookup m = none)
    (h : Q (.ref g, [.ref a]) s) : wpAny (model X.prog X.w) A (getMethod (.ref a) m pl) Q E s := by
  obtain ⟨mA, O, r, _, _, _⟩ := ins_get I.hok e
  have hn : mA m = none := RelO.none_of (by rw [← l]; exact r m)
  exact get_meth I.kIn O (c.get m) k.at_ k.fn hn h
theorem Inv.made (I : Inv X pins σ H s) : Inv X pins σ (upd (upd H s.heap.objs.size (.own (s.heap.objs.size + 1))) (s.heap.objs.size + 1) (.ins C s.heap.objs.size []))
    { s with heap := (s.heap.push PySem.W.emptyDict).push (PySem.W.instObj C s.heap.objs.size) } := by
  have e1 : (s.heap.push PySem.W.emptyDict).get? s.heap.objs.size = some PySem.W.emptyDict := Heap.get?_push_size s.heap rfl
  have e2 : ((s.heap.push PySem.W.emptyDict).push (PySem.W.instObj C s.heap.objs.size)).get? (s.heap.objs.size + 1) = some (PySem.W.instObj C s.heap.objs.size) := by
    have := Heap.get?_push_size (s.heap.push PySem.W.emptyDict) (o := PySem.W.instObj C s.heap.objs.size) rfl
    rwa [Heap.size_push] at this
  have e3 : (s.heap.push PySem.W.emptyDict).Ns s.heap.objs.size (fun _ => none) := ⟨PySem.W.emptyDict, #[], _, e1, rfl, (fun e he => absurd he (by simp)), fun _ => rfl⟩
  have I1 := I.laid (a := s.heap.objs.size) (o := .own (s.heap.objs.size + 1)) (h' := s.heap.push PySem.W.emptyDict) (t' := s.toks) (fun b u q => Heap.get?_push_of_some _ q) (Nat.le_refl _) ⟨_, e1⟩
  refine I1.laid (a := s.heap.objs.size + 1) (o := .ins C s.heap.objs.size []) (t' := s.toks) (fun b u q => Heap.get?_push_of_some _ q) (Nat.le_of_eq (Heap.size_push _ _)) ?_
  have ne : s.heap.objs.size ≠ s.heap.objs.size + 1 := Nat.ne_of_lt (Nat.lt_succ_self _)
  refine ⟨by rw [upd_ne ne, upd_same], Nat.zero_le _, ne, e2, fun _ => none, (Heap.Ns1.of_empty e3).at fun o q => Heap.get?_push_of_some _ q, fun _ => True.intro, fun y hy => absurd rfl hy⟩
end
section
variable {X : Cx} {o e value : Expr} {f : Str} {pos pos' tpos : Pos} {ta tv : TE}
end
section
variable {X : Cx} {pins : List (Addr × Obj)} {σ : St} {H : Hp} {s : Shared} {A : Around} {E : Value → Shared → Prop} {Q : Value → Shared → Prop} {c : Value} {b : Bool}
end
end L2
namespace L2
open PySem PySem.Spec PyProof.Rows
structure Room (k : Nat) (A : Around) : Prop where
  hd : A.handled = none
  dp : A.depth + 3 * k + 5 < recursionLimit
  un : A.units + 16 * k + 200 < cLine
theorem Room.mono {j k : Nat} {A : Around} (r : Room k A) (h : j ≤ k) : Room j A := ⟨r.hd, by have := r.dp; lia, by have := r.un; lia⟩
theorem Room.deeper {k : Nat} {A : Around} (r : Room (k + 1) A) (env : Env) : Room k (A.deeper env) :=
  ⟨r.hd, by have := r.dp; show A.depth + 1 + 3 * k + 5 < _; lia, by have := r.un; show A.units + 3 + 16 * k + 200 < _; lia⟩
theorem Room.in1 {k : Nat} {A : Around} (r : Room (k + 1) A) : Room k A.in1 :=
  ⟨r.hd, by have := r.dp; show A.depth + 3 * k + 5 < _; lia, by have := r.un; show A.units + 1 + 16 * k + 200 < _; lia⟩
theorem Room.depth {k : Nat} {A : Around} (r : Room k A) : A.depth < recursionLimit := by have := r.dp; lia
theorem Room.units {k : Nat} {A : Around} (r : Room k A) : A.units + 64 < cLine := by have := r.un; lia
def tNil : TA := fun _ H Q => Q [] H
def tCons (ta : TE) (tr : TA) : TA := fun σ H Q => ta σ H fun x H1 => tr σ H1 fun xs H2 => Q (x :: xs) H2
section
variable {X : Cx} {e : Expr} {es : List Expr} {te : TE} {t : TA} {pos : Pos}
theorem pa_nil : PA X [] tNil := fun _ _ _ _ H Q I h => Calls.spliced_nil ⟨[], H, I, .nil, h⟩
theorem pa_cons (ha : PE X e te) (hr : PA X es t) (hs : starEach (e :: es) X.env = (false, eval e X.env) :: starEach es X.env := by rfl) : PA X (e :: es) (tCons te t) := by
  intro pos pins s σ H Q I h
  rw [hs]
  show wpAny _ _ (spliced ((false, eval e X.env) :: backTo pos (starEach es X.env))) _ _ s
  refine Calls.spliced_cons (thn (ha pins s σ H _ I h) fun u s1 ⟨x, H1, I1, r1, q1⟩ => ?_)
  exact thn (hr pos pins s1 σ H1 _ I1 q1) fun us s2 ⟨xs, H2, I2, r2, q2⟩ => ⟨x :: xs, H2, I2, .cons r1 r2, q2⟩
def tTup (t : TA) : TE := fun σ H Q => t σ H fun xs H1 => xs.length ≤ sizeLine ∧ ∀ p, H1 p = none → Q (.ref p) (upd H1 p (.tup xs))
def tLst (t : TA) : TE := fun σ H Q => t σ H fun xs H1 => xs.length ≤ sizeLine ∧ ∀ p, H1 p = none → Q (.ref p) (upd H1 p (.lst xs))
theorem pe_tup {x1} (h : PA X es t) : PE X (.Tuple es x1 pos) (tTup t) := by
  intro pins s σ H Q I hq
  refine wpAny_Tuple_spliced (thn (h pos pins s σ H _ I hq) fun us s1 ⟨xs, H1, I1, r, z, q⟩ => ⟨by rw [← r.length]; exact z, ?_⟩)
  have hf : H1 s1.heap.objs.size = none := I1.hok.fresh (Nat.le_refl _)
  refine ⟨.ref s1.heap.objs.size, upd H1 s1.heap.objs.size (.tup xs), I1.laid (t' := s1.toks) (fun b u e => Heap.get?_push_of_some _ e) (Nat.le_refl _) ?_, rfl, q _ hf⟩
  exact ⟨z, us, r, ⟨_, Heap.get?_push_size _ rfl, rfl, _, rfl⟩⟩
theorem pe_lst (h : PA X es t) : PE X (.List es pos) (tLst t) := by
  intro pins s σ H Q I hq
  refine wpAny_List_spliced (thn (h pos pins s σ H _ I hq) fun us s1 ⟨xs, H1, I1, r, z, q⟩ => ⟨by rw [← r.length]; exact z, ?_⟩)
  have hf : H1 s1.heap.objs.size = none := I1.hok.fresh (Nat.le_refl _)
  refine ⟨.ref s1.heap.objs.size, upd H1 s1.heap.objs.size (.lst xs), I1.laid (t' := s1.toks) (fun b u e => Heap.get?_push_of_some _ e) (Nat.le_refl _) ?_, rfl, q _ hf⟩
  exact ⟨z, us, 0, r, Heap.get?_push_size _ rfl⟩
end
abbrev Sp := List V → Hp → VK → XK → Prop
abbrev CXT := List Env → Hp → Shared → XK → Value → Shared → Prop
structure Env0 (P : Program) (w : World) (K : PySem.W.Frag) (mg : Str → Option Value) (base : Heap) (A : Around) (outer : List Env) (s : Shared) (H : Hp) : Prop where
  frames : A.frames = some outer
  mod : Mod K mg base
  bs : ∀ b o, base.get? b = some o → s.heap.get? b = some o ∧ H b = none
  bsz : base.objs.size ≤ s.heap.objs.size
  funs : s.heap.FunFrames base outer
  frf : ∀ b ∈ frs outer, H b = none
  hok : HOk P w H s.heap
  bare : AllBare s.gens
def CE (outer : List Env) (P : Program) (w : World) (H : Hp) (s : Shared) (Q : VK) (u : Value) (s' : Shared) : Prop :=
  ∃ v H', s'.os = s.os ∧ AllBare s'.gens ∧ Un (frs outer) [] H H' s.heap s'.heap ∧ HOk P w H' s'.heap ∧ RelV v u ∧ Q v H'
def CR (CX : CXT) (outer : List Env) (P : Program) (w : World) (H : Hp) (s : Shared) (Q : VK) (E : XK) (r : Result) (s' : Shared) : Prop :=
  match r with
  | .ok (.ret u) => CE outer P w H s Q u s'
  | .ok _ => False
  | .error e => CX outer H s E e s'
structure FnOk (P : Program) (w : World) (K : PySem.W.Frag) (mg : Str → Option Value) (base : Heap) (CX : CXT) (k : Nat) (f : Addr) (fd : FuncData) (ps : List Str) (sp : Sp) : Prop where
  len : ∀ vs H Q E, sp vs H Q E → vs.length = ps.length
  run : ∀ (A : Around) (outer : List Env) (s : Shared) (H : Hp) (args : Args) (us : List Value) (vs : List V) (Q : VK) (E : XK), Room k A → Env0 P w K mg base A outer s H → BindsTo s fd args (ps.zip us) → Vals vs us → sp vs H Q E →
    codeAny (model P w) A (.call (.ref f) args) (CR CX outer P w H s Q E) s
theorem FnOk.imp {P : Program} {w : World} {K : PySem.W.Frag} {mg : Str → Option Value} {base : Heap} {CX : CXT} {k : Nat} {f : Addr} {fd : FuncData} {ps : List Str} {sp sp' : Sp} (F : FnOk P w K mg base CX k f fd ps sp)
    (h : ∀ vs H Q E, sp' vs H Q E → sp vs H Q E) : FnOk P w K mg base CX k f fd ps sp' :=
  ⟨fun vs H Q E q => F.len vs H Q E (h _ _ _ _ q), fun A outer s H args us vs Q E hr he hb hv hs => F.run A outer s H args us vs Q E hr he hb hv (h _ _ _ _ hs)⟩
section
variable {X : Cx} {pins : List (Addr × Obj)} {σ : St} {H : Hp} {s s' : Shared}
theorem Inv.env0 (I : Inv X pins σ H s) : Env0 X.prog X.w X.K X.mg X.base X.A X.stack s H :=
  ⟨I.ok.frames, I.ok.mod, I.bs, Nat.le_trans I.ok.bsz I.sz, I.stack, I.stkFree, I.hok, I.bare⟩
theorem Inv.after {Q : VK} {u : Value} (I : Inv X pins σ H s) (h : CE X.stack X.prog X.w H s Q u s') : EP X pins σ Q u s' := by
  obtain ⟨v, H', os, bare, un, hok, r, q⟩ := h
  obtain ⟨hh, g, d, t, os'⟩ := s'
  obtain rfl : os' = s.os := os
  exact ⟨v, H', I.call (h' := hh) (g' := g) (d' := d) (t' := t) (ch := []) un hok bare (fun b z => absurd z (by simp)), r, q⟩
end
def tCall (sp : Sp) (dvs : List V) (E : XK) (t : TA) : TE := fun σ H Q => t σ H fun vs H1 => sp (vs ++ dvs) H1 Q E
def tMeth (C : Addr) (m : Str) (sp : Sp) (dvs : List V) (E : XK) (ta : TE) (t : TA) : TE := fun σ H Q => ta σ H fun x H1 => ∃ a dx fs, x = .ref a ∧ H1 a = some (.ins C dx fs) ∧ fs.lookup m = none ∧
  t σ H1 fun vs H2 => sp (x :: (vs ++ dvs)) H2 Q E
def Binds (K : PySem.W.Frag) (fd : FuncData) (ps : List Str) (ds : List Value) : Prop :=
  ∀ (s : Shared) (us : List Value), K.In s.heap → (us ++ ds).length = ps.length → BindsTo s fd ⟨us, []⟩ (ps.zip (us ++ ds))
theorem Binds.all {K : PySem.W.Frag} {fd : FuncData} {ps : List Str} (h : ∀ us : List Value, us.length = ps.length → bindArgs fd ⟨us, []⟩ = pure (ps.zip us)) : Binds K fd ps [] := fun s us _ hl => by
  rw [List.append_nil] at hl ⊢
  exact .of_eq (h us hl)
def Passes (CX : CXT) (X : Cx) (E : XK) : Prop := ∀ (pins : List (Addr × Obj)) (σ : St) (H : Hp) (s : Shared) (e : Value) (s' : Shared), Inv X pins σ H s → CX X.stack H s E e s' → X.xe e s'
section
variable {X : Cx} {CX : CXT} {k : Nat} {f C : Addr} {fd : FuncData} {ps : List Str} {sp : Sp} {dvs : List V} {ds : List Value} {E : XK} {x m : Str} {p pos apos : Pos} {e o : Expr} {es : List Expr} {ta : TE} {t : TA}
theorem run_fn {pins : List (Addr × Obj)} {σ : St} {H : Hp} {s : Shared} {Q : VK} {us : List Value} {vs : List V} (F : FnOk X.prog X.w X.K X.mg X.base CX k f fd ps sp) (hr : Room k X.A) (hb : Binds X.K fd ps ds) (hd : Vals dvs ds) (hx : Passes CX X E)
    (I : Inv X pins σ H s) (r : Vals vs us) (h : sp (vs ++ dvs) H Q E) : wpAny (model X.prog X.w) X.A (call (.ref f) us) (EP X pins σ Q) X.xe s := by
  have r2 : Vals (vs ++ dvs) (us ++ ds) := r.append hd
  have hl : (us ++ ds).length = ps.length := by rw [← r2.length]; exact F.len _ _ _ _ h
  refine wpAny_call (codeAny_mono (F.run X.A X.stack s H ⟨us, []⟩ (us ++ ds) (vs ++ dvs) Q E hr I.env0 (hb s us I.kIn hl) r2 h) fun r s' hq => ?_)
  cases r with
  | error e => exact hx pins σ H s e s' I hq
  | ok fl =>
    cases fl with
    | ret u => exact I.after hq
    | next => exact False.elim hq
    | brk => exact False.elim hq
    | cont => exact False.elim hq
theorem pe_call (F : FnOk X.prog X.w X.K X.mg X.base CX k f fd ps sp) (hr : Room k X.A) (hg : Gl X x) (hm : X.mg x = some (.ref f)) (hk : PySem.W.keepIn X.K (.ref f) = true) (hb : Binds X.K fd ps ds) (hd : Vals dvs ds) (hx : Passes CX X E)
    (ha : PA X (e :: es) t) (hdb : (x == ("__debug__" : Str)) = false := by decide) (he : starEach (e :: es) X.env = (false, eval e X.env) :: starEach es X.env := by rfl) (hpl : (backTo pos (starEach es X.env)).any (·.1) = false := by rfl) :
    PE X (.Call (.Name x p) (e :: es) [] pos) (tCall sp dvs E t) := by
  intro pins s σ H Q I h
  refine wpAny_Call_Name_kw (ld_glob I hg hm ?_ hdb)
  refine PySem.W.callWith_K (h₀ := X.base) I.ok.mod.kin hk (thn (ha pos pins s σ H _ I h) fun us s1 ⟨vs, H1, I1, r, q⟩ => ⟨I1.kIn, ?_⟩) he hpl
  exact run_fn F hr hb hd hx I1 r q
theorem pe_meth {pl : Sem Bool} (he : PE X o ta) (c : Cls X.K C) (hm : Meth X.K C m f) (F : FnOk X.prog X.w X.K X.mg X.base CX k f fd ps sp) (hr : Room k X.A) (hb : Binds X.K fd ps ds) (hd : Vals dvs ds) (hx : Passes CX X E) (ha : PA X (e :: es) t)
    (hst : starEach (e :: es) X.env = (false, eval e X.env) :: starEach es X.env := by rfl) (hpl : (backTo pos (starEach es X.env)).any (·.1) = false := by rfl)
    (ht : eval (.Call (.Attribute o m apos) (e :: es) [] pos) X.env = (do
      let ov ← eval o X.env
      standAt apos.atName
      let (f, first) ← holding [ov] (getMethod ov m pl)
      callWith pos f first (backTo pos (starEach (e :: es) X.env)) (backToKw pos (keywordEach [] X.env))) := by rfl) :
    PE X (.Call (.Attribute o m apos) (e :: es) [] pos) (tMeth C m sp dvs E ta t) := by
  intro pins s σ H Q I h
  refine PySem.W.methodCall_KW (pl := pl) (thn (he pins s σ H _ I h) fun u s1 ⟨x, H1, I1, rx, a, dx, fs, ex, ea, l, q⟩ => ?_) ht
  subst ex
  obtain rfl : u = Value.ref a := rx
  refine getmeth_ok I1 ea c hm l ?_
  refine PySem.W.callWith_K (first := [.ref a]) (h₀ := X.base) I.ok.mod.kin hm.kp (thn (ha pos pins s1 σ H1 _ I1 q) fun us s2 ⟨vs, H2, I2, r, q2⟩ => ⟨I2.kIn, ?_⟩) hst hpl
  exact run_fn (us := .ref a :: us) (vs := .ref a :: vs) F hr hb hd hx I2 (.cons rfl r) q2
end
section
variable {X : Cx} {CX : CXT} {k : Nat} {f C : Addr} {fd : FuncData} {ps ks : List Str} {sp : Sp} {E : XK} {x m : Str} {p pos apos kpos : Pos} {e o : Expr} {es : List Expr} {kws : List Keyword} {te ta : TE} {t tk : TA} {nm : Option Str}
variable {g : List Value → List Value → List Value} {gV : List V → List V → List V}
end
structure FnScope (N P : List Str) (sc : Scope) : Prop where
  kind : sc.kind = .function
  co : sc.isCoroutine = false
  gen : sc.isGenerator = false
  nd : N.Nodup
  pre : N.take P.length = P
  par : ∀ x ∈ P, sc.names.lookup x = some .local ∨ sc.names.lookup x = some .cell
  nofree : ∀ y ∈ sc.names, y.2 ≠ .free
theorem bindL_out {kindOf : Str → Option NameKind} {x : Str} : ∀ {binds : List (Str × Value)} {m : Str → Option Value}, (∀ v, (x, v) ∉ binds) → bindL kindOf binds m x = m x
  | [], _, _ => rfl
  | (n, v) :: r, m, h => by
    unfold bindL
    rw [bindL_out fun w hw => h w (List.mem_cons_of_mem _ hw)]
    split
    · have : x ≠ n := by rintro rfl; exact h v List.mem_cons_self
      simp [this]
    · rfl
theorem bindC_out {kindOf : Str → Option NameKind} {x : Str} : ∀ {binds : List (Str × Value)} {m : Str → Option Value}, (∀ v, (x, v) ∉ binds) → bindC kindOf binds m x = m x
  | [], _, _ => rfl
  | (n, v) :: r, m, h => by
    unfold bindC
    rw [bindC_out fun w hw => h w (List.mem_cons_of_mem _ hw)]
    split
    · rfl
    · have : x ≠ n := by rintro rfl; exact h v List.mem_cons_self
      simp [this]
theorem bindL_get {kindOf : Str → Option NameKind} {x : Str} {v : Value} : ∀ {P : List Str} {vs : List Value} {i : Nat} {m : Str → Option Value}, P.Nodup → P[i]? = some x → vs[i]? = some v → kindOf x = some .local →
    bindL kindOf (P.zip vs) m x = some v
  | [], _, _, _, _, h, _, _ => by simp at h
  | _ :: _, [], _, _, _, _, h, _ => by simp at h
  | p :: P, w :: vs, 0, m, nd, h1, h2, hk => by
    simp at h1 h2; subst h1; subst h2
    show bindL kindOf ((p, w) :: P.zip vs) m p = _
    unfold bindL
    rw [bindL_out fun v hv => (List.nodup_cons.mp nd).1 (List.of_mem_zip hv).1, if_pos hk]
    simp
  | p :: P, w :: vs, i + 1, m, nd, h1, h2, hk => by
    show bindL kindOf ((p, w) :: P.zip vs) m x = _
    unfold bindL
    exact bindL_get (i := i) (List.nodup_cons.mp nd).2 (by simpa using h1) (by simpa using h2) hk
theorem bindC_get {kindOf : Str → Option NameKind} {x : Str} {v : Value} : ∀ {P : List Str} {vs : List Value} {i : Nat} {m : Str → Option Value}, P.Nodup → P[i]? = some x → vs[i]? = some v → kindOf x ≠ some .local →
    bindC kindOf (P.zip vs) m x = some v
  | [], _, _, _, _, h, _, _ => by simp at h
  | _ :: _, [], _, _, _, _, h, _ => by simp at h
  | p :: P, w :: vs, 0, m, nd, h1, h2, hk => by
    simp at h1 h2; subst h1; subst h2
    show bindC kindOf ((p, w) :: P.zip vs) m p = _
    unfold bindC
    rw [bindC_out fun v hv => (List.nodup_cons.mp nd).1 (List.of_mem_zip hv).1, if_neg hk]
    simp
  | p :: P, w :: vs, i + 1, m, nd, h1, h2, hk => by
    show bindC kindOf ((p, w) :: P.zip vs) m x = _
    unfold bindC
    exact bindC_get (i := i) (List.nodup_cons.mp nd).2 (by simpa using h1) (by simpa using h2) hk
def start (N : List Str) (vs : List V) : St := vs.map some ++ List.replicate (N.length - vs.length) none
def cxOf (CX : CXT) (P : Program) (w : World) (K : PySem.W.Frag) (mg : Str → Option Value) (base : Heap) (N : List Str) (qual : Str) (scope : Scope) (f : Addr) (cd : Value) (A : Around) (outer : List Env) (s : Shared) (H : Hp) (E : XK) : Cx where
  prog := P
  w := w
  K := K
  mg := mg
  base := base
  A := A.deeper (envOfC qual scope s.heap.objs.size f cd)
  N := N
  s₀ := s
  H₀ := H
  env := envOfC qual scope s.heap.objs.size f cd
  outer := outer
  stack := envOfC qual scope s.heap.objs.size f cd :: outer
  ex := []
  calm := true
  fn := fun _ => true
  pn := []
  xe := fun e s' => wpAny (model P w) (A.deeper (envOfC qual scope s.heap.objs.size f cd)) (leaving (envOfC qual scope s.heap.objs.size f cd) e) (fun _ s'' => CX outer H s E e s'') (fun e' s'' => CX outer H s E e' s'') s'
theorem cell_has {sc : Scope} {n : Nat} {x : Str} (h : sc.names.lookup x = some .cell) : ∃ c, (cellsFrom n sc.names []).lookup x = some c := by
  have q := PySem.W.cellsFrom_some sc.names n [] (.inl h)
  exact Option.isSome_iff_exists.mp q
theorem inv_start {CX : CXT} {P : Program} {w : World} {K : PySem.W.Frag} {mg : Str → Option Value} {base : Heap} {N ps : List Str} {qual : Str} {scope : Scope} {f : Addr} {cd : Value} {A : Around} {outer : List Env} {s s1 : Shared} {H : Hp} {E : XK} {us : List Value} {vs : List V}
    (S : FnScope N ps scope) (hd : A.handled = none) (e0 : Env0 P w K mg base A outer s H) (hl : vs.length = ps.length) (r : Vals vs us)
    (x : InCallC s s.heap.objs.size (bindL (envOfC qual scope s.heap.objs.size f cd).kindOf (ps.zip us) fun _ => none) (cellsFrom (s.heap.objs.size + 1) scope.names []) (bindC (envOfC qual scope s.heap.objs.size f cd).kindOf (ps.zip us) fun _ => none) s1) :
    Inv (cxOf CX P w K mg base N qual scope f cd A outer s H E) [] (start N vs) H s1 := by
  have hpl : ps.length ≤ N.length := by have := congrArg List.length S.pre; rw [List.length_take] at this; lia
  obtain ⟨h1, tk, rfl, hk⟩ := x.done
  have noA : ∀ b : Addr, b ∉ (cxOf CX P w K mg base N qual scope f cd A outer s H E).ex := fun b z => absurd (show b ∈ ([] : List Addr) from z) (by simp)
  refine ⟨⟨e0.mod, S.kind, rfl, rfl, Nat.le_refl _, fun y z c h1 h2 => ?_, fun y hy => ?_, fun y c _ h => ?_, fun _ => hd, Around.frames_deeper e0.frames, .inr ⟨rfl, rfl⟩, fun b z => absurd z (noA b), e0.bs, e0.bsz, fun b _ _ => noA b, fun b z => absurd z (noA b), e0.funs, e0.frf⟩,
    rfl, e0.bare, Un.kept hk, ⟨_, x.toInCall.ns, fun i y v h1 h2 h3 => ?_⟩, fun y c h => ⟨_, x.cell y c h⟩, e0.hok.fresh (Nat.le_refl _), fun y c h => ?_, fun p hp => absurd (show p ∈ ([] : List (Addr × Obj)) from hp) (by simp), e0.hok.kept hk, ?_⟩
  · exact name_of_addr x.apart (PySem.mem_of_lookup h1) (PySem.mem_of_lookup h2)
  · have hy : scope.names.lookup y = some .cell ∨ scope.names.lookup y = some .free := hy
    rcases hy with hy | hy
    · exact cell_has hy
    · exact absurd rfl (S.nofree _ (PySem.mem_of_lookup hy))
  · exact Nat.le_of_lt (x.above y c (PySem.mem_of_lookup h))
  · have hi : i < vs.length := by
      unfold start at h2
      by_cases hi : i < vs.length
      · exact hi
      · rw [List.getElem?_append_right (by simpa using hi)] at h2
        rw [List.getElem?_replicate] at h2
        split at h2 <;> cases h2
    have ha : vs[i]? = some v := by
      unfold start at h2
      rw [List.getElem?_append_left (by simpa using hi), List.getElem?_map] at h2
      cases e : vs[i]? with
      | none => rw [e] at h2; cases h2
      | some a => rw [e] at h2; cases h2; rfl
    obtain ⟨u, hu, rv⟩ := r.get ha
    have hp : ps[i]? = some y := by
      rw [← S.pre, List.getElem?_take_of_lt (by lia)]; exact h1
    have ndP : ps.Nodup := by rw [← S.pre]; exact S.nd.sublist (List.take_sublist _ _)
    refine ⟨u, rv, ?_⟩
    rcases S.par y (List.mem_of_getElem? hp) with k | k
    · exact .inl ⟨k, bindL_get ndP hp hu k⟩
    · obtain ⟨c, e⟩ := cell_has (n := s.heap.objs.size + 1) k
      refine .inr ⟨.inl k, c, e, ?_⟩
      have q := x.cell y c e
      rw [bindC_get ndP hp hu (by show scope.names.lookup y ≠ _; rw [k]; decide)] at q
      exact q
  · exact e0.hok.fresh (Nat.le_of_lt (x.above y c (PySem.mem_of_lookup h)))
  · unfold start
    show _ = N.length
    rw [List.length_append, List.length_map, List.length_replicate]
    lia
theorem fn_of {CX : CXT} {P : Program} {w : World} {K : PySem.W.Frag} {mg : Str → Option Value} {base : Heap} {k : Nat} {f : Addr} {name qual : Str} {params : Arguments} {body : List Stmt} {scope : Scope} {dV kV doc pm cdv ct oc : Value} {an od : Option Addr}
    {osl : Array (Option Value)} {N ps : List Str} {sp : Sp} (lk : K.lookup f = some ⟨oc, od, .func (PySem.W.fnOf name qual params body scope dV kV doc pm an cdv ct), osl⟩) (hcd : PySem.W.codeIn K cdv qual = true) (S : FnScope N ps scope)
    (len : ∀ vs H Q E, sp vs H Q E → vs.length = ps.length)
    (hbody : ∀ (A : Around) (outer : List Env) (s : Shared) (H : Hp) (vs : List V) (Q : VK) (E : XK), Room k (A.deeper (envOfC qual scope s.heap.objs.size f cdv)) → sp vs H Q E →
      ∃ t, PSs (cxOf CX P w K mg base N qual scope f cdv A outer s H E) body t ∧ t { nx := fun _ H' => Q .non H', rt := Q } (start N vs) H) :
    FnOk P w K mg base CX (k + 1) f (PySem.W.fnOf name qual params body scope dV kV doc pm an cdv ct) ps sp := by
  refine ⟨len, fun A outer s H args us vs Q E hr e0 hb r hsp => ?_⟩
  have hl := len _ _ _ _ hsp
  have KX : K.In s.heap := e0.mod.kin.keeps fun b o e => (e0.bs b o e).1
  have lim : s.heap.NoLimit := e0.mod.nolimit.keeps fun b o e => (e0.bs b o e).1
  have hkind : ∀ y ∈ ps.zip us, scope.names.lookup y.1 = some .local ∨ (scope.names.lookup y.1 = some .cell ∧ ((cellsFrom (s.heap.objs.size + 1) scope.names []).lookup y.1).isSome = true) := fun ⟨n, v⟩ hy => by
    rcases S.par n (List.of_mem_zip hy).1 with q | q
    · exact .inl q
    · exact .inr ⟨q, PySem.W.cellsFrom_some _ _ _ (.inl q)⟩
  refine codeAny_call_function hr.depth (KX _ _ lk) rfl S.co S.gen rfl (PySem.W.codeRec_of KX hcd) (hb _ _ _ _ ?_)
  refine wpAny_newFunctionEnv_cells S.kind hkind fun env he s1 x => ?_
  subst he
  refine ⟨lim.keeps x.toInCall.keep, codeAny_func ?_⟩
  obtain ⟨t, ht, hq⟩ := hbody A outer s H vs Q E (hr.deeper _) hsp
  have I : Inv (cxOf CX P w K mg base N qual scope f cdv A outer s H E) [] (start N vs) H s1 := inv_start S hr.hd e0 hl r x
  refine wpAny_mono (ht [] s1 (start N vs) H _ I hq) (fun fl s' hs => ?_) fun e s' hs => hs
  have fin : ∀ {σ' : St} {H' : Hp} {v : V} {u : Value}, Inv (cxOf CX P w K mg base N qual scope f cdv A outer s H E) [] σ' H' s' → RelV v u → Q v H' → CE outer P w H s Q u s' :=
    fun {σ' H' v u} J rv q => ⟨v, H', J.os, J.bare, J.base, J.hok, rv, q⟩
  cases fl with
  | ret u =>
    obtain ⟨v, σ', H', J, rv, q⟩ := hs
    exact fin J rv q
  | next =>
    obtain ⟨σ', H', J, q⟩ := hs
    exact fin (v := V.non) (u := Value.none) J rfl q
  | brk =>
    obtain ⟨_, _, _, q⟩ := hs
    exact False.elim q
  | cont =>
    obtain ⟨_, _, _, q⟩ := hs
    exact False.elim q
end L2
namespace L2
open PySem PySem.Spec PyProof.Rows
section
variable {X : Cx} {x : Str} {p pos : Pos} {e : Expr} {es : List Expr} {t : TA} {id T : String} {r : List V → Hp → VK → Prop}
def tCB (r : List V → Hp → VK → Prop) (t : TA) : TE := fun σ H Q => t σ H fun vs H1 => r vs H1 Q
theorem pe_callB (hc : CallR X (.builtin id) r) (hg : Gl X x) (hm : X.mg x = none) (hv : bootBuiltins x = some (.builtin id)) (ha : PA X (e :: es) t) (hn : x ≠ "__name__" := by decide) (hdb : (x == ("__debug__" : Str)) = false := by decide)
    (he : starEach (e :: es) X.env = (false, eval e X.env) :: starEach es X.env := by rfl) (hpl : (backTo pos (starEach es X.env)).any (·.1) = false := by rfl) : PE X (.Call (.Name x p) (e :: es) [] pos) (tCB r t) := by
  intro pins s σ H Q I h
  refine wpAny_Call_Name_kw (ld_blt I hg hm hv ?_ hn hdb)
  exact PyProof.Rows.callWith_builtin1 (thn (ha pos pins s σ H _ I h) fun us s1 ⟨vs, H1, I1, r1, q1⟩ => hc pins s1 σ H1 vs us Q I1 r1 q1) he hpl
theorem pe_callTy (hc : CallR X (.type T) r) (hg : Gl X x) (hm : X.mg x = none) (hv : bootBuiltins x = some (.type T)) (ha : PA X (e :: es) t) (hn : x ≠ "__name__" := by decide) (hdb : (x == ("__debug__" : Str)) = false := by decide)
    (he : starEach (e :: es) X.env = (false, eval e X.env) :: starEach es X.env := by rfl) (hpl : (backTo pos (starEach es X.env)).any (·.1) = false := by rfl) : PE X (.Call (.Name x p) (e :: es) [] pos) (tCB r t) := by
  intro pins s σ H Q I h
  refine wpAny_Call_Name_kw (ld_blt I hg hm hv ?_ hn hdb)
  exact PyProof.Rows.callWith_type1 (thn (ha pos pins s σ H _ I h) fun us s1 ⟨vs, H1, I1, r1, q1⟩ => hc pins s1 σ H1 vs us Q I1 r1 q1) he hpl
end
end L2
namespace HT
open PySem PyProof.Rows
section
open PySem.SeqAt
open PySem.AutoSeq1 (wpAny_loadPart')
open PySem.MeetsSeq PySem.MeetsSeq2 PySem.MeetsSeq3
end
section
variable {prog : Program} {w : World} {A : Around} {E : Value → Shared → Prop} {s : Shared}
theorem cat_tup {t b : Addr} {vs ws : List Value} {Q : Value → Shared → Prop} (ht : IsTup s.heap t vs.toArray) (hb : IsTup s.heap b ws.toArray) (hv : vs ≠ [])
    (h1 : ws = [] → Q (.ref t) s) (h2 : ws ≠ [] → Q (.ref s.heap.objs.size) { s with heap := s.heap.push { cls := .type "tuple", data := .seq (vs ++ ws).toArray } })
    (hsz : vs.length + ws.length ≤ sizeLine) : wpAny (model prog w) A (binaryOp .Add (.ref t) (.ref b)) Q E s := by
  obtain ⟨⟨cls, dd, data, sl⟩, ho, hc, n, hd⟩ := id ht
  obtain ⟨⟨cls2, dd2, data2, sl2⟩, ho2, hc2, n2, hd2⟩ := id hb
  simp only at hc hd hc2 hd2
  subst hc hd hc2 hd2
  have e : vs.toArray ++ ws.toArray = (vs ++ ws).toArray := by simp
  by_cases hw : ws = []
  · exact concat_meets ⟨_, ho, rfl⟩ ⟨_, ho2, rfl⟩ noFill_tuple_add seq_tuple_add PySem.F.slot_tuple_add PySem.F.entry_tuple_add (PySem.F.args_tuple_add_2 _ _)
      (tuple_addW1 t b vs.toArray ws.toArray n n2 dd dd2 sl sl2 (by simpa using hv) (by simp [hw])) ⟨ho, ho2, h1 hw⟩
  · refine concat_meets ⟨_, ho, rfl⟩ ⟨_, ho2, rfl⟩ noFill_tuple_add seq_tuple_add PySem.F.slot_tuple_add PySem.F.entry_tuple_add (PySem.F.args_tuple_add_2 _ _)
      (tuple_addW2 t b vs.toArray ws.toArray n n2 dd dd2 sl sl2 (by simpa using hv) (by simpa using hw) (by rw [List.size_toArray, List.size_toArray]; exact hsz)) ⟨ho, ho2, ?_⟩
    rw [e]
    exact h2 hw
def sIx (n d : Nat) : Option Int → Nat
  | none => d
  | some v => if v < 0 then (v + (n : Int)).toNat else min v.toNat n
theorem sIx_nat (n d k : Nat) : sIx n d (some (k : Int)) = min k n := by
  show (if (k : Int) < 0 then ((k : Int) + (n : Int)).toNat else min (k : Int).toNat n) = min k n
  rw [if_neg (by lia), Int.toNat_natCast]
theorem sIx_le (n d : Nat) (hd : d ≤ n) (o : Option Int) : sIx n d o ≤ n := by
  cases o with
  | none => exact hd
  | some v =>
    show (if v < 0 then (v + (n : Int)).toNat else min v.toNat n) ≤ n
    by_cases hv : v < 0
    · rw [if_pos hv]; lia
    · rw [if_neg hv]; exact Nat.min_le_right _ _
theorem clip_eq (v : Int) (n d : Nat) : (if v < 0 then max (v + (n : Int)) 0 else min v (n : Int)) = ((sIx n d (some v) : Nat) : Int) := by
  show (if v < 0 then max (v + (n : Int)) 0 else min v (n : Int)) = (((if v < 0 then (v + (n : Int)).toNat else min v.toNat n) : Nat) : Int)
  by_cases hv : v < 0
  · simp only [if_pos hv]; lia
  · simp only [if_neg hv]; lia
theorem adjust_gen (lo hi : Option Int) (n : Nat) : Builtin.Slice.sliceAdjust lo hi 1 (n : Int) = (((sIx n 0 lo : Nat) : Int), ((sIx n n hi : Nat) : Int)) := by
  have h1 : ¬ ((1 : Int) < 0) := by lia
  unfold Builtin.Slice.sliceAdjust
  simp only [h1, if_false]
  refine Prod.ext ?_ ?_
  · cases lo with
    | none => rfl
    | some v => exact clip_eq v n 0
  · cases hi with
    | none => rfl
    | some v => exact clip_eq v n n
theorem places_gen (i j : Nat) : Builtin.Slice.slicePlaces (i : Int) (j : Int) 1 = j - i := by
  unfold Builtin.Slice.slicePlaces
  have h1 : (1 : Int) > 0 := by lia
  simp only [h1, if_true, Int.ediv_one]
  split <;> lia
theorem slicePart_ {v : Value} {o : Option Int} {Q : Option Int → Shared → Prop} (p : IsPart v o) (h : Q o s) : wpAny (model prog w) A (Builtin.Slice.slicePartIndex v) Q E s := by
  cases p with
  | none => exact slicePart_none h
  | int i t => exact slicePart_int h
theorem sliceApplied_gen {sl : Addr} {vl vu : Value} {lo hi : Option Int} {n : Nat} {Q : Int × Int × Nat → Shared → Prop} (hs : s.heap.IsSliceOf sl vl vu .none) (pl : IsPart vl lo) (pu : IsPart vu hi)
    (h : Q (((sIx n 0 lo : Nat) : Int), 1, sIx n n hi - sIx n 0 lo) s) : wpAny (model prog w) A (Builtin.Slice.sliceApplied (.ref sl) (pure (n : Int))) Q E s := by
  obtain ⟨os, hos, hcs, hds⟩ := id hs
  unfold Builtin.Slice.sliceApplied Builtin.Slice.sliceFields
  refine wpAny_bind (wpAny_bind (wpAny_field hos hds (x := vl) rfl (wpAny_bind (wpAny_field hos hds (x := vu) rfl (wpAny_bind (wpAny_field hos hds (x := .none) rfl (wpAny_pure ?_)))))))
  refine wpAny_bind (slicePart_none ?_)
  show wpAny _ _ (if ((1 : Int) == 0) = true then _ else _) _ _ s
  rw [if_neg (by decide)]
  refine wpAny_bind (slicePart_ pl (wpAny_bind (slicePart_ pu (wpAny_bind (wpAny_pure ?_)))))
  show wpAny _ _ (match Builtin.Slice.sliceAdjust lo hi 1 (n : Int) with | (lo, hi) => pure (lo, (1 : Int), Builtin.Slice.slicePlaces lo hi 1)) _ _ s
  rw [adjust_gen lo hi n]
  show wpAny _ _ (pure (((sIx n 0 lo : Nat) : Int), (1 : Int), Builtin.Slice.slicePlaces ((sIx n 0 lo : Nat) : Int) ((sIx n n hi : Nat) : Int) 1)) _ _ s
  rw [places_gen]
  exact wpAny_pure h
theorem pick_gen (xs : Array Value) (i k : Nat) : ((List.range k).filterMap fun (m : Nat) => xs[((i : Int) + (m : Int) * 1).toNat]?).toArray = ((xs.toList.drop i).take k).toArray := by
  have e : (fun (m : Nat) => xs[((i : Int) + (m : Int) * 1).toNat]?) = fun m => xs[i + m]? := by
    funext m
    have : ((i : Int) + (m : Int) * 1).toNat = i + m := by lia
    rw [this]
  rw [e]
  have := pick_run xs i k
  rw [List.filterMap_map] at this
  have e2 : ((fun x => xs[x]?) ∘ fun x => i + x) = fun m => xs[i + m]? := rfl
  rw [e2] at this
  rw [this]
theorem getItem_tuple_cut {t sl : Addr} {items : Array Value} {vl vu : Value} {lo hi : Option Int} {Q : Value → Shared → Prop} (ht : IsTup s.heap t items) (hs : s.heap.IsSliceOf sl vl vu .none) (pl : IsPart vl lo) (pu : IsPart vu hi)
    (hw : ¬ (sIx items.size 0 lo = 0 ∧ sIx items.size items.size hi = items.size))
    (h : Q (.ref s.heap.objs.size) { s with heap := s.heap.push { cls := .type "tuple", data := .seq ((items.toList.drop (sIx items.size 0 lo)).take (sIx items.size items.size hi - sIx items.size 0 lo)).toArray } })
    (hsz : items.size ≤ sizeLine) : wpAny (model prog w) A (getItem (.ref t) (.ref sl)) Q E s := by
  have htake : sizeOk (.seq ((items.toList.drop (sIx items.size 0 lo)).take (sIx items.size items.size hi - sIx items.size 0 lo)).toArray) := by
    show ((items.toList.drop (sIx items.size 0 lo)).take (sIx items.size items.size hi - sIx items.size 0 lo)).toArray.size ≤ sizeLine
    rw [List.size_toArray, List.length_take, List.length_drop, Array.length_toList]
    lia
  have hj : sIx items.size items.size hi ≤ items.size := sIx_le _ _ (Nat.le_refl _) hi
  obtain ⟨os, hos, hcs, hds⟩ := id hs
  have hTs : s.TypeIs (.ref sl) "slice" := ⟨os, hos, hcs⟩
  unfold getItem
  try with_reducible refine wpAny_holding ?_
  first | refine wpAny_bind (wpAny_pure ?_) | skip
  refine wpAny_bind (wpAny_sequenceKey ht.typeIs (by decide) ?_)
  refine wpAny_bind (wpAny_callSpecial?_slot (name := Str.ofString "__getitem__") ht.typeIs PyProof.Rows.slot_tuple_getitem
    (wpAny_call_entry PyProof.Rows.slot_tuple_getitem ht.typeIs entry_tuple_getitem ?_ (args_tuple_getitem _ _)))
  show wpAny _ _ (Builtin.Tuple.tupleItemsOf (.ref t) >>= _) _ _ s
  refine wpAny_bind (tupleItemsOf_ ht ?_)
  refine wpAny_bind (wpAny_typeOf hTs ?_)
  rw [if_pos (by decide)]
  refine wpAny_bind (sliceApplied_gen hs pl pu ?_)
  have hno : ¬ ((((sIx items.size 0 lo : Nat) : Int) == 0 && (1 : Int) == 1 && (sIx items.size items.size hi - sIx items.size 0 lo) == items.size) = true) := by
    intro q
    rw [Bool.and_eq_true, Bool.and_eq_true] at q
    have q1 : ((sIx items.size 0 lo : Nat) : Int) = 0 := eq_of_beq q.1.1
    have q2 : sIx items.size items.size hi - sIx items.size 0 lo = items.size := eq_of_beq q.2
    exact hw ⟨by lia, by lia⟩
  show wpAny _ _ (if (((sIx items.size 0 lo : Nat) : Int) == 0 && (1 : Int) == 1 && (sIx items.size items.size hi - sIx items.size 0 lo) == items.size) = true then _ else _) _ _ s
  rw [if_neg hno, pick_gen]
  first
    | exact wpAny_bind (m := Builtin.Tuple.tupleExact _) (wpAny_newObj_type (wpAny_pure ⟨_, rfl, wpAny_pure h⟩) htake)
    | exact wpAny_bind (m := Builtin.Tuple.tupleExact _) (wpAny_newObj_type (wpAny_bind (wpAny_pure (wpAny_pure ⟨_, rfl, wpAny_pure h⟩))) htake)
    | exact wpAny_bind (wpAny_bind (m := Builtin.Tuple.tupleExact _) (wpAny_newObj_type (wpAny_pure (wpAny_pure ⟨_, rfl, wpAny_pure h⟩)) htake))
    | exact wpAny_bind (wpAny_bind (m := Builtin.Tuple.tupleExact _) (wpAny_newObj_type (wpAny_pure ⟨_, rfl, wpAny_pure h⟩) htake))
end
end HT
namespace L2
open PySem PySem.Spec PyProof.Rows
abbrev TO := St → Hp → (Option Int → Hp → Prop) → Prop
def PO (X : Cx) (e : Option Expr) (t : TO) : Prop :=
  ∀ (pins : List (Addr × Obj)) (s : Shared) (σ : St) (H : Hp) (Q : Option Int → Hp → Prop), Inv X pins σ H s → t σ H Q →
    wpAny (model X.prog X.w) X.A (evalPart e X.env) (fun u s' => ∃ o H', Inv X pins σ H' s' ∧ IsPart u o ∧ Q o H') X.xe s
def tPart (t : TE) : TO := fun σ H Q => t σ H fun x H1 => ∃ i, x = .int i ∧ Q (some i) H1
theorem intsAre_of {ns : List Int} : ∀ {us : List Value}, Vals (ns.map V.int) us → IntsAre us ns := by
  induction ns with
  | nil => intro us r; rw [List.map_nil] at r; cases r; exact .nil
  | cons n ns ih =>
    intro us r
    rw [List.map_cons] at r
    cases r with
    | cons r1 r2 =>
      obtain ⟨t, e⟩ := r1
      subst e
      exact .cons n t (ih r2)
section
variable {X : Cx} {e : Expr} {te : TE} {lo hi : Option Expr} {tl th : TO} {pos p2 : Pos}
theorem po_some (h : PE X e te) : PO X (some e) (tPart te) := by
  intro pins s σ H Q I hw
  rw [evalPart_some]
  refine thn (h pins s σ H _ I hw) fun u s1 ⟨x, H1, I1, r1, q1⟩ => ?_
  obtain ⟨i, rfl, q⟩ := q1
  obtain ⟨t, rfl⟩ := r1
  exact ⟨some i, H1, I1, .int i t, q⟩
def SlR (X : Cx) (r : V → Option Int → Option Int → Hp → VK → Prop) : Prop :=
  ∀ (pins : List (Addr × Obj)) (s : Shared) (σ : St) (H : Hp) (x : V) (v vl vu : Value) (lo hi : Option Int) (sl : Addr) (Q : VK), Inv X pins σ H s → RelV x v → s.heap.IsSliceOf sl vl vu .none → IsPart vl lo → IsPart vu hi → r x lo hi H Q →
    ∃ T id, typeLookup (.type T) "__getitem__" = pure (some (.builtin id)) ∧ s.TypeIs v T ∧ wpAny (model X.prog X.w) X.A (getItem v (.ref sl)) (EP X pins σ Q) X.xe s
theorem SlR.or {r r' : V → Option Int → Option Int → Hp → VK → Prop} (h : SlR X r) (h' : SlR X r') : SlR X (fun x lo hi H Q => r x lo hi H Q ∨ r' x lo hi H Q) := by
  intro pins s σ H x v vl vu lo hi sl Q I rx hs pl pu q
  rcases q with q | q
  · exact h pins s σ H x v vl vu lo hi sl Q I rx hs pl pu q
  · exact h' pins s σ H x v vl vu lo hi sl Q I rx hs pl pu q
def tSl (r : V → Option Int → Option Int → Hp → VK → Prop) (te : TE) (tl th : TO) : TE := fun σ H Q => te σ H fun x H1 => tl σ H1 fun l H2 => th σ H2 fun u H3 => r x l u H3 Q
theorem pe_slice {r : V → Option Int → Option Int → Hp → VK → Prop} (hr : SlR X r) (he : PE X e te) (hl : PO X lo tl) (hu : PO X hi th) : PE X (.Subscript e (.Slice lo hi none p2) pos) (tSl r te tl th) := by
  intro pins s σ H Q I h
  refine Subscript_ (thn (he pins s σ H _ I h) fun v s1 ⟨x, H1, I1, r1, q1⟩ => ?_)
  refine wpAny_Slice (thn (hl pins s1 σ H1 _ I1 q1) fun vl s2 ⟨l, H2, I2, pl, q2⟩ => thn (hu pins s2 σ H2 _ I2 q2) fun vu s3 ⟨u, H3, I3, pu, q3⟩ => ?_)
  rw [evalPart_none]
  refine wpAny_pure ?_
  have I4 : Inv X pins σ H3 { s3 with heap := s3.heap.push { cls := .type "slice", data := .fields #[vl, vu, .none] } } := I3.kept (t' := s3.toks) fun b ob q => Heap.get?_push_of_some _ q
  obtain ⟨T, id, hT, ht, hg⟩ := hr pins { s3 with heap := s3.heap.push { cls := .type "slice", data := .fields #[vl, vu, .none] } } σ H3 x v vl vu l u s3.heap.objs.size Q I4 r1 (Heap.IsSliceOf.new ..) pl pu q3
  show wpAny (model X.prog X.w) X.A (subscriptTail e (.Slice lo hi none p2) v (.ref s3.heap.objs.size)) (EP X pins σ Q) X.xe { s3 with heap := s3.heap.push { cls := .type "slice", data := .fields #[vl, vu, .none] } }
  exact tail_any (ops := [.ref s3.heap.objs.size, v]) ht hT hg (by with_unfolding_all rfl)
def cutV (xs : List V) (lo hi : Option Int) : List V := (xs.drop (HT.sIx xs.length 0 lo)).take (HT.sIx xs.length xs.length hi - HT.sIx xs.length 0 lo)
theorem cutV_length (xs : List V) (lo hi : Option Int) : (cutV xs lo hi).length ≤ xs.length := by
  unfold cutV
  rw [List.length_take, List.length_drop]
  lia
def rSlT (K : PySem.W.Frag) : V → Option Int → Option Int → Hp → VK → Prop := fun x lo hi H Q => ∃ a xs, x = .ref a ∧ SqT K H a xs ∧
  ¬ (HT.sIx xs.length 0 lo = 0 ∧ HT.sIx xs.length xs.length hi = xs.length) ∧ ∀ p, H p = none → Q (.ref p) (upd H p (.tup (cutV xs lo hi)))
theorem sl_tup : SlR X (rSlT X.K) := by
  intro pins s σ H x v vl vu lo hi sl Q I rx hs pl pu h
  obtain ⟨a, xs, rfl, hx, hw, q⟩ := h
  cases rx
  obtain ⟨its, r, ht, hz⟩ := I.tuple hx
  have hlen : its.toArray.size = xs.length := by rw [List.size_toArray]; exact r.length.symm
  refine ⟨"tuple", _, PyProof.Rows.slot_tuple_getitem.lookup, ht.typeIs, ?_⟩
  refine HT.getItem_tuple_cut ht hs pl pu (by rw [hlen]; exact hw) ?_ (by rw [hlen]; exact hz)
  rw [hlen]
  refine ⟨.ref s.heap.objs.size, _, I.laid (t' := s.toks) (o := .tup (cutV xs lo hi)) (fun b ob q => Heap.get?_push_of_some _ q) (Nat.le_refl _) ?_, rfl, q _ (I.hok.fresh (Nat.le_refl _))⟩
  exact ⟨Nat.le_trans (cutV_length xs lo hi) hz, _, (r.drop (HT.sIx xs.length 0 lo)).take (HT.sIx xs.length xs.length hi - HT.sIx xs.length 0 lo), IsTup.new _ _⟩
def rCatT (K : PySem.W.Frag) : R2 := fun x y H Q => ∃ a b xs ys, x = .ref a ∧ y = .ref b ∧ SqT K H a xs ∧ SqT K H b ys ∧ xs ≠ [] ∧ xs.length + ys.length ≤ sizeLine ∧
  (ys = [] → Q (.ref a) H) ∧ (ys ≠ [] → ∀ p, H p = none → Q (.ref p) (upd H p (.tup (xs ++ ys))))
theorem Vals.nil_iff {xs : List V} {us : List Value} (r : Vals xs us) : us = [] ↔ xs = [] := by
  cases r with
  | nil => simp
  | cons _ _ => simp
theorem op_catT : OpR X (binaryOp .Add) (rCatT X.K) := by
  intro pins s σ H x y v u Q I rx ry h
  obtain ⟨a, b, xs, ys, rfl, rfl, ha, hb, hx, hz, q1, q2⟩ := h
  cases rx
  cases ry
  obtain ⟨its, r1, p1, _⟩ := I.tuple ha
  obtain ⟨its2, r2, p2, _⟩ := I.tuple hb
  refine HT.cat_tup p1 p2 (fun z => hx (r1.nil_iff.mp z)) (fun z => ⟨.ref a, H, I, rfl, q1 (r2.nil_iff.mp z)⟩) (fun z => ?_) (by rw [← r1.length, ← r2.length]; exact hz)
  refine ⟨.ref s.heap.objs.size, _, I.laid (t' := s.toks) (o := .tup (xs ++ ys)) (fun b ob q => Heap.get?_push_of_some _ q) (Nat.le_refl _) ?_, rfl, q2 (fun w => z (r2.nil_iff.mpr w)) _ (I.hok.fresh (Nat.le_refl _))⟩
  exact ⟨by rw [List.length_append]; exact hz, _, r1.append r2, IsTup.new _ _⟩
end
end L2
namespace L2
open PySem PySem.Spec PyProof.Rows
def ixN (n : Nat) (i : Int) : Option Nat := if 0 ≤ i then (if i < n then some i.toNat else none) else if -(n : Int) ≤ i then some (i + n).toNat else none
def atI {α : Type} (xs : List α) (i : Int) : Option α := (ixN xs.length i).bind fun j => xs[j]?
theorem ixN_seq {n : Nat} {i : Int} {j : Nat} (h : ixN n i = some j) : seqIndex? i n = some j ∧ j < n ∧ -(n : Int) ≤ i ∧ i < n := by
  unfold ixN at h
  by_cases h0 : 0 ≤ i
  · rw [if_pos h0] at h
    by_cases h1 : i < n
    · rw [if_pos h1] at h
      have e : i.toNat = j := Option.some.inj h
      exact ⟨by rw [seqIndex_of h0 h1, e], by lia, by lia, h1⟩
    · rw [if_neg h1] at h; cases h
  · rw [if_neg h0] at h
    by_cases h1 : -(n : Int) ≤ i
    · rw [if_pos h1] at h
      have e : (i + n).toNat = j := Option.some.inj h
      exact ⟨by rw [seqIndex_neg (by lia) h1, e], by lia, h1, by lia⟩
    · rw [if_neg h1] at h; cases h
theorem atI_get {α : Type} {xs : List α} {i : Int} {v : α} (h : atI xs i = some v) : ∃ j, seqIndex? i xs.length = some j ∧ xs[j]? = some v ∧ j < xs.length ∧ -(xs.length : Int) ≤ i ∧ i < xs.length := by
  unfold atI at h
  cases e : ixN xs.length i with
  | none => rw [e] at h; cases h
  | some j =>
    rw [e] at h
    obtain ⟨h1, h2, h3, h4⟩ := ixN_seq e
    exact ⟨j, h1, h, h2, h3, h4⟩
def PlainIx (b : Expr) : Prop := ∀ o i, subscripted b false o i = operate [o, i] (getItem o i)
def IxR (X : Cx) (r : R2) : Prop :=
  ∀ (value slice : Expr) (pins : List (Addr × Obj)) (s : Shared) (σ : St) (H : Hp) (x y : V) (v u : Value) (Q : VK), Inv X pins σ H s → RelV x v → RelV y u → r x y H Q →
    subscripted slice false v u = operate [v, u] (getItem v u) → wpAny (model X.prog X.w) X.A (subscriptTail value slice v u) (EP X pins σ Q) X.xe s
def MtR (X : Cx) (id : String) (r : V → List V → Hp → VK → Prop) : Prop :=
  ∀ (pins : List (Addr × Obj)) (s : Shared) (σ : St) (H : Hp) (x : V) (xs : List V) (v : Value) (us : List Value) (Q : VK), Inv X pins σ H s → RelV x v → Vals xs us → r x xs H Q →
    wpAny (model X.prog X.w) X.A (call (.builtin id) (v :: us)) (EP X pins σ Q) X.xe s
section
variable {X : Cx} {a b : Expr} {ta tb : TE} {pos : Pos}
theorem IxR.or {r r' : R2} (h : IxR X r) (h' : IxR X r') : IxR X (fun x y H Q => r x y H Q ∨ r' x y H Q) := by
  intro value slice pins s σ H x y v u Q I rx ry q hs
  rcases q with q | q
  · exact h value slice pins s σ H x y v u Q I rx ry q hs
  · exact h' value slice pins s σ H x y v u Q I rx ry q hs
theorem pe_ix {r : R2} (hr : IxR X r) (ha : PE X a ta) (hb : PE X b tb) (hs : PlainIx b) : PE X (.Subscript a b pos) (tOp r ta tb) := by
  intro pins s σ H Q I h
  exact Subscript_ (binT ha hb I h fun v u s2 x y H2 I2 rx ry q => hr a b pins s2 σ H2 x y v u Q I2 rx ry q (hs _ _))
def rIxL (K : PySem.W.Frag) : R2 := fun x y H Q => ∃ p xs i v, x = .ref p ∧ y = .int i ∧ SqL K H p xs ∧ atI xs i = some v ∧ Q v H
def rIxT (K : PySem.W.Frag) : R2 := fun x y H Q => ∃ p xs i v, x = .ref p ∧ y = .int i ∧ SqT K H p xs ∧ atI xs i = some v ∧ Q v H
def rIxS : R2 := fun x y H Q => ∃ z i c, x = .str z ∧ y = .int i ∧ z.length ≤ sizeLine ∧ atI z.cps.toList i = some c ∧ Q (.str ⟨#[c]⟩) H
theorem ix_list : IxR X (rIxL X.K) := by
  intro value slice pins s σ H x y v u Q I rx ry h hs
  obtain ⟨p, xs, i, z, rfl, rfl, hq, he, q⟩ := h
  cases rx
  obtain ⟨t, rfl⟩ := ry
  obtain ⟨its, r, pl, hz⟩ := I.list hq
  obtain ⟨j, h1, h2, h3, h4, h5⟩ := atI_get he
  obtain ⟨w, ew, rw'⟩ := r.get h2
  have hl := r.length
  have hn := line63
  have fin : EP X pins σ Q w s := ⟨z, H, I, rw', q⟩
  by_cases h0 : 0 ≤ i
  · have hj : i.toNat = j := by
      rw [seqIndex_of h0 h5] at h1
      exact Option.some.inj h1
    exact item_listR pl.isList h0 (by lia) (by rw [hj]; simpa using ew) fin hs
  · have hj : (i + (its.toArray.size : Int)).toNat = j := by
      rw [seqIndex_neg (by lia) h4] at h1
      rw [List.size_toArray, ← hl]
      exact Option.some.inj h1
    exact subscriptTail_builtinR (x := w) pl.isList.typeIs slot_list_getitem.lookup
      (wpAny_getItem_list_neg (Q := fun r s' => r = w ∧ EP X pins σ Q r s') pl.isList (by lia) (by rw [List.size_toArray] <;> lia) (by lia) (by rw [hj]; simpa using ew) ⟨rfl, fin⟩) hs
theorem ix_tup : IxR X (rIxT X.K) := by
  intro value slice pins s σ H x y v u Q I rx ry h hs
  obtain ⟨p, xs, i, z, rfl, rfl, hq, he, q⟩ := h
  cases rx
  obtain ⟨t, rfl⟩ := ry
  obtain ⟨its, r, pl, hz⟩ := I.tuple hq
  obtain ⟨j, h1, h2, h3, h4, h5⟩ := atI_get he
  obtain ⟨w, ew, rw'⟩ := r.get h2
  have hl := r.length
  have hn := line63
  have fin : EP X pins σ Q w s := ⟨z, H, I, rw', q⟩
  exact subscriptTail_builtinR (x := w) pl.typeIs slot_tuple_getitem.lookup
    (getItem_tuple (j := j) (Q := fun r s' => r = w ∧ EP X pins σ Q r s') pl (by lia) (by lia) (by rw [List.size_toArray, ← hl]; exact h1) (by simpa using ew) ⟨rfl, fin⟩) hs
theorem ix_str : IxR X rIxS := by
  intro value slice pins s σ H x y v u Q I rx ry h hs
  obtain ⟨z, i, c, rfl, rfl, hz, he, q⟩ := h
  obtain ⟨t, rfl⟩ := rx
  obtain ⟨t', rfl⟩ := ry
  obtain ⟨j, h1, h2, h3, h4, h5⟩ := atI_get he
  have hl : z.cps.toList.length = z.length := by simp [Str.length]
  rw [hl] at h1 h4 h5
  have hn := line63
  exact tail_any (typeIs_str s z t) slot_str_getitem.lookup (getItem_str (c := c) (by
    have e1 : decide (i < -(2 ^ 63 : Int)) = false := decide_eq_false (by lia)
    have e2 : decide (i ≥ 2 ^ 63) = false := decide_eq_false (by lia)
    rw [e1, e2, Bool.or_false]) (by rw [h1]; simpa using h2) ⟨.str ⟨#[c]⟩, H, I.tok _, ⟨_, rfl⟩, q⟩) hs
def rIx (K : PySem.W.Frag) : R2 := fun x y H Q => rIxL K x y H Q ∨ rIxT K x y H Q ∨ rIxS x y H Q
theorem ix_seq : IxR X (rIx X.K) := ix_list.or (ix_tup.or ix_str)
theorem slice_bounds (lo hi : Option Int) (n : Nat) : (sliceBounds lo hi none n).1 = ((HT.sIx n 0 lo : Nat) : Int) ∧ (sliceBounds lo hi none n).2.1 = ((HT.sIx n n hi : Nat) : Int) ∧ (sliceBounds lo hi none n).2.2 = 1 := by
  refine ⟨?_, ?_, rfl⟩
  · cases lo with
    | none => simp [sliceBounds, HT.sIx]
    | some i =>
      simp only [sliceBounds, HT.sIx, Option.getD_none, show (1 : Int) > 0 by decide, if_true]
      by_cases h : i < 0
      · simp only [h, if_true] <;> lia
      · simp only [h, if_false] <;> lia
  · cases hi with
    | none => simp [sliceBounds, HT.sIx]
    | some i =>
      simp only [sliceBounds, HT.sIx, Option.getD_none, show (1 : Int) > 0 by decide, if_true]
      by_cases h : i < 0
      · simp only [h, if_true] <;> lia
      · simp only [h, if_false] <;> lia
theorem slicePick_cut (its : List Value) (lo hi : Option Int) : slicePick its.toArray lo hi none = ((its.drop (HT.sIx its.length 0 lo)).take (HT.sIx its.length its.length hi - HT.sIx its.length 0 lo)).toArray := by
  obtain ⟨h1, h2, h3⟩ := slice_bounds lo hi its.toArray.size
  unfold slicePick
  rw [h1, h2, h3]
  simp only [sliceRange_one, pick_run, List.size_toArray] <;> rfl
def rSlL (K : PySem.W.Frag) : V → Option Int → Option Int → Hp → VK → Prop := fun x lo hi H Q => ∃ a xs, x = .ref a ∧ SqL K H a xs ∧ ∀ p, H p = none → Q (.ref p) (upd H p (.lst (cutV xs lo hi)))
theorem sl_list : SlR X (rSlL X.K) := by
  intro pins s σ H x v vl vu lo hi sl Q I rx hs pl pu h
  obtain ⟨a, xs, rfl, hx, q⟩ := h
  cases rx
  obtain ⟨its, r, ht, hz⟩ := I.list hx
  have hlen := r.length
  refine ⟨"list", _, slot_list_getitem.lookup, ht.isList.typeIs, ?_⟩
  refine wpAny_getItem_list_slice ht.isList hs pl pu .none (by simp) ?_ (by rw [List.size_toArray] <;> lia)
  rw [slicePick_cut, ← hlen]
  refine ⟨.ref s.heap.objs.size, _, I.laid (t' := s.toks) (o := .lst (cutV xs lo hi)) (fun b ob q => Heap.get?_push_of_some _ q) (Nat.le_refl _) ?_, rfl, q _ (I.hok.fresh (Nat.le_refl _))⟩
  exact ⟨Nat.le_trans (cutV_length xs lo hi) hz, _, 0, (r.drop (HT.sIx xs.length 0 lo)).take (HT.sIx xs.length xs.length hi - HT.sIx xs.length 0 lo), Heap.get?_push_size _ rfl⟩
def flatV : V → Bool
  | .non => true
  | .bl _ => true
  | .int _ => true
  | .str _ => true
  | _ => false
def eqV : V → V → Bool
  | .non, .non => true
  | .bl a, .bl b => a == b
  | .bl a, .int b => (if a then 1 else 0) == b
  | .int a, .bl b => a == (if b then 1 else 0)
  | .int a, .int b => a == b
  | .str a, .str b => a == b
  | _, _ => false
theorem eqAt_V {A : Around} {s : Shared} {y x : V} {u v : Value} (ry : RelV y u) (rx : RelV x v) (fy : flatV y = true) (fx : flatV x = true) : SeqAt.EqAt A s u v (eqV y x) := by
  cases y with
  | non =>
    cases ry
    cases x with
    | non => cases rx; exact SeqAt.EqAt.same _
    | bl b => cases rx; exact SeqAt.EqAt.none_bool b
    | int b => obtain ⟨t, rfl⟩ := rx; exact SeqAt.EqAt.none_int b t
    | str b => obtain ⟨t, rfl⟩ := rx; exact SeqAt.EqAt.none_str b t
    | _ => exact absurd (show false = true from fx) Bool.false_ne_true
  | bl a =>
    cases ry
    cases x with
    | non => cases rx; exact SeqAt.EqAt.bool_none a
    | bl b => cases rx; exact SeqAt.EqAt.bool_bool a b
    | int b => obtain ⟨t, rfl⟩ := rx; exact SeqAt.EqAt.bool_int a b t
    | str b => obtain ⟨t, rfl⟩ := rx; exact SeqAt.EqAt.bool_str a b t
    | _ => exact absurd (show false = true from fx) Bool.false_ne_true
  | int a =>
    obtain ⟨t', rfl⟩ := ry
    cases x with
    | non => cases rx; exact SeqAt.EqAt.int_none a t'
    | bl b => cases rx; exact SeqAt.EqAt.int_bool a t' b
    | int b => obtain ⟨t, rfl⟩ := rx; exact SeqAt.EqAt.int_int a t' b t
    | str b => obtain ⟨t, rfl⟩ := rx; exact SeqAt.EqAt.int_str a t' b t
    | _ => exact absurd (show false = true from fx) Bool.false_ne_true
  | str a =>
    obtain ⟨t', rfl⟩ := ry
    cases x with
    | non => cases rx; exact SeqAt.EqAt.str_none a t'
    | bl b => cases rx; exact SeqAt.EqAt.str_bool a t' b
    | int b => obtain ⟨t, rfl⟩ := rx; exact SeqAt.EqAt.str_int a t' b t
    | str b => obtain ⟨t, rfl⟩ := rx; exact SeqAt.EqAt.str_str a t' b t
    | _ => exact absurd (show false = true from fx) Bool.false_ne_true
  | _ => exact absurd (show false = true from fy) Bool.false_ne_true
def eqU (x : V) (u : Value) : Bool := match u with
  | .none => eqV .non x
  | .bool b => eqV (.bl b) x
  | .int i _ => eqV (.int i) x
  | .str z _ => eqV (.str z) x
  | _ => false
theorem eqU_of {x y : V} {u : Value} (r : RelV y u) (f : flatV y = true) : eqU x u = eqV y x := by
  cases y with
  | non => cases r; rfl
  | bl b => cases r; rfl
  | int i => obtain ⟨t, rfl⟩ := r; rfl
  | str z => obtain ⟨t, rfl⟩ := r; rfl
  | _ => exact absurd (show false = true from f) Bool.false_ne_true
theorem any_eqU {x : V} : ∀ {xs : List V} {us : List Value}, Vals xs us → xs.all flatV = true → us.any (eqU x) = xs.any fun y => eqV y x
  | _, _, .nil, _ => rfl
  | y :: xs, u :: us, .cons r t, f => by
    rw [List.all_cons, Bool.and_eq_true] at f
    rw [List.any_cons, List.any_cons, eqU_of r f.1, any_eqU t f.2]
theorem mem_eqAt {A : Around} {s : Shared} {x : V} {v : Value} (rx : RelV x v) (fx : flatV x = true) : ∀ {xs : List V} {us : List Value}, Vals xs us → xs.all flatV = true → ∀ u ∈ us, SeqAt.EqAt A s u v (eqU x u)
  | _, _, .nil, _ => fun u hu => by cases hu
  | y :: xs, u :: us, .cons r t, f => fun u' hu => by
    rw [List.all_cons, Bool.and_eq_true] at f
    rcases List.mem_cons.mp hu with rfl | hu
    · rw [eqU_of r f.1]; exact eqAt_V r rx f.1 fx
    · exact mem_eqAt rx fx t f.2 u' hu
def inV (x : V) (xs : List V) : Bool := xs.any fun y => eqV y x
def rIn (K : PySem.W.Frag) (neg : Bool) : R2 := fun x y H Q => ∃ p xs, y = .ref p ∧ (SqL K H p xs ∨ SqT K H p xs) ∧ flatV x = true ∧ xs.all flatV = true ∧ Q (.bl (if neg then !inV x xs else inV x xs)) H
theorem op_in_seq : OpR X (compareOp .In) (rIn X.K false) := by
  intro pins s σ H x y v u Q I rx ry h
  obtain ⟨p, xs, rfl, hq, fx, fs, q⟩ := h
  cases ry
  rcases hq with hq | hq
  · obtain ⟨its, r, pl, hz⟩ := I.list hq
    refine SeqAt.in_listAt (eqU x) pl.isList (fun w hw => mem_eqAt rx fx r fs w (by simpa using hw)) ⟨.bl _, H, I, rfl, ?_⟩
    rw [show its.toArray.any (eqU x) = its.any (eqU x) by simp, any_eqU r fs]
    exact q
  · obtain ⟨its, r, pl, hz⟩ := I.tuple hq
    refine SeqAt.in_tupleAt (eqU x) pl (fun w hw => mem_eqAt rx fx r fs w (by simpa using hw)) ⟨.bl _, H, I, rfl, ?_⟩
    rw [show its.toArray.any (eqU x) = its.any (eqU x) by simp, any_eqU r fs]
    exact q
theorem call_tuple_of : CallR X (.type "tuple") (fun xs H Q => ∃ p ys, xs = [.ref p] ∧ ((SqL X.K H p ys ∧ ∀ l, H l = none → Q (.ref l) (upd H l (.tup ys))) ∨ (SqT X.K H p ys ∧ Q (.ref p) H))) := by
  intro pins s σ H xs us Q I r h
  obtain ⟨p, ys, rfl, h⟩ := h
  obtain ⟨u, rfl, rx⟩ := vals1 r
  cases rx
  rcases h with ⟨hq, q⟩ | ⟨hq, q⟩
  · obtain ⟨its, r', pl, hz⟩ := I.list hq
    have hlen := r'.length
    refine call_tuple_list pl.isList (fun h' kp => ?_) (by simp only [List.size_toArray] <;> lia)
    have I1 : Inv X pins σ H { s with heap := h' } := I.kept (t' := s.toks) kp
    have I2 : Inv X pins σ (upd H h'.objs.size (.tup ys)) { s with heap := h'.push { cls := .type "tuple", data := .seq its.toArray } } :=
      I1.laid (t' := s.toks) (fun b o e => Heap.get?_push_of_some _ e) (Nat.le_refl _) (show ObjOk X.prog X.w _ _ _ (.tup ys) from ⟨hz, its, r', IsTup.new _ _⟩)
    exact ⟨.ref h'.objs.size, _, I2, rfl, q _ (I1.hok.fresh (Nat.le_refl _))⟩
  · obtain ⟨its, r', pl, hz⟩ := I.tuple hq
    exact call_tuple_same pl ⟨.ref p, H, I, rfl, q⟩
def tyV (K : PySem.W.Frag) (T : String) (x : V) (H : Hp) : Prop := match x with
  | .str _ => T = "str"
  | .int _ => T = "int"
  | .ref p => (T = "list" ∧ ∃ xs, SqL K H p xs) ∨ (T = "tuple" ∧ ∃ o, K.lookup p = some o ∧ o.cls = .type "tuple" ∧ o.dict = none) ∨
      (T = "dict" ∧ ((∃ kvs, H p = some (.dK kvs)) ∨ ∃ kvs, H p = some (.dT kvs))) ∨ (T = "set" ∧ ∃ S n, H p = some (.set S n))
  | _ => False
theorem tyV_is {pins : List (Addr × Obj)} {σ : St} {H : Hp} {s : Shared} {T : String} {x : V} {v : Value} (I : Inv X pins σ H s) (r : RelV x v) (ty : tyV X.K T x H) :
    s.TypeIs v T ∧ ∀ a, v = .ref a → ∃ ob, s.heap.get? a = some ob ∧ ob.dict = none := by
  cases x with
  | str z =>
    obtain ⟨t, rfl⟩ := r
    cases (show T = "str" from ty)
    exact ⟨typeIs_str s z t, fun _ e => nomatch e⟩
  | int i =>
    obtain ⟨t, rfl⟩ := r
    cases (show T = "int" from ty)
    exact ⟨typeIs_int s i t, fun _ e => nomatch e⟩
  | ref p =>
    cases r
    rcases ty with ⟨rfl, xs, hq⟩ | ⟨rfl, o, hk, hc, hd⟩ | ⟨rfl, hk⟩ | ⟨rfl, S, n, hk⟩
    · obtain ⟨its, _, pl, _⟩ := I.list hq
      refine ⟨pl.isList.typeIs, fun a e => ?_⟩
      cases e
      obtain ⟨o, n, e, c, hd, _⟩ := pl
      exact ⟨o, e, hd⟩
    · refine ⟨⟨o, I.kIn p o hk, hc⟩, fun a e => ?_⟩
      cases e
      exact ⟨o, I.kIn _ o hk, hd⟩
    · have z : ∃ o, s.heap.get? p = some o ∧ o.ExactDict := by
        rcases hk with ⟨kvs, hk⟩ | ⟨kvs, hk⟩
        · obtain ⟨_, _, _, _, o, _, _, e, ex, _⟩ := I.hok p _ hk
          exact ⟨o, e, ex⟩
        · obtain ⟨_, _, _, _, o, _, _, e, ex, _⟩ := I.hok p _ hk
          exact ⟨o, e, ex⟩
      obtain ⟨o, e, ex⟩ := z
      refine ⟨⟨o, e, ex.1⟩, fun a e2 => ?_⟩
      cases e2
      exact ⟨o, e, ex.2.1⟩
    · obtain ⟨o, _, _, _, e, ex, _⟩ := I.hok p _ hk
      refine ⟨⟨o, e, ex.1⟩, fun a e2 => ?_⟩
      cases e2
      exact ⟨o, e, ex.2.1⟩
  | _ => exact False.elim ty
def tBM (K : PySem.W.Frag) (T : String) (r : V → List V → Hp → VK → Prop) (to : TE) (t : TA) : TE := fun σ H Q => to σ H fun x H1 => tyV K T x H1 ∧ t σ H1 fun xs H2 => r x xs H2 Q
variable {o e : Expr} {es : List Expr} {to : TE} {t : TA} {name : Str} {apos cpos : Pos} {T id : String} {r : V → List V → Hp → VK → Prop}
theorem pe_bm (pa : PlainAttrs T) (slot : Slot T name id) (hty : typeOf (.builtin id) = pure (.type "method_descriptor")) (hm : MtR X id r) (ho : PE X o to) (ha : PA X (e :: es) t)
    (hbase : attributeBase o name X.env (eval o X.env) = eval o X.env := by rfl)
    (hfew : ((backTo cpos (starEach (e :: es) X.env)).all (fun x => !x.1) && (backToKw cpos (keywordEach [] X.env)).all (fun x => x.1.isSome)
      && decide ((e :: es).length + ([] : List Keyword).length + (if ([] : List Keyword).isEmpty then 0 else 1) < 30)) = true := by rfl)
    (hline : (apos.endLine == cpos.line) = true := by rfl) (hs : starEach (e :: es) X.env = (false, eval e X.env) :: starEach es X.env := by rfl) (hplain : (backTo cpos (starEach es X.env)).any (·.1) = false := by rfl) :
    PE X (.Call (.Attribute o name apos) (e :: es) [] cpos) (tBM X.K T r to t) := by
  intro pins s σ H Q I h
  refine wpAny_Call_method_late hbase hfew hline rfl (thn (ho pins s σ H _ I h) fun v s1 ⟨x, H1, I1, r1, ty, q1⟩ => ?_)
  obtain ⟨h1, h2⟩ := tyV_is I1 r1 ty
  refine ⟨T, id, pa, slot, hty, h1, h2, ?_⟩
  have hA := ha cpos pins s1 σ H1 _ I1 q1
  rw [hs] at hA ⊢
  refine Calls.callWith_builtin (by show (false || (backTo cpos (starEach es X.env)).any (·.1)) = false; rw [hplain] <;> rfl) (Calls.evalArgs_plain ?_)
  exact thn hA fun us s2 ⟨vs, H2, I2, r2, q2⟩ => hm pins s2 σ H2 x vs v us Q I2 r1 r2 q2
end
end L2
namespace L2
open PySem PySem.Spec PyProof.Rows
def MtM (X : Cx) (id : String) (r : V → List V → Hp → VK → Prop) : Prop :=
  ∀ (pins : List (Addr × Obj)) (s : Shared) (σ : St) (H : Hp) (x : V) (xs : List V) (v : Value) (us : List Value) (Q : VK), Inv X pins σ H s → RelV x v → Vals xs us → r x xs H Q →
    wpAny (model X.prog X.w) X.A (call (.builtin id) (v :: us)) (EP X pins σ Q) X.xe s
theorem Vals.one : ∀ {x : V} {us : List Value}, Vals [x] us → ∃ u, us = [u] ∧ RelV x u
  | _, _, .cons r .nil => ⟨_, rfl, r⟩
theorem Vals.two : ∀ {x y : V} {us : List Value}, Vals [x, y] us → ∃ u v, us = [u, v] ∧ RelV x u ∧ RelV y v
  | _, _, _, .cons r (.cons q .nil) => ⟨_, _, rfl, r, q⟩
section
variable {X : Cx} {pins : List (Addr × Obj)} {σ : St} {H : Hp} {s : Shared} {l b : Addr} {xs ys zs : List V}
theorem Inv.lset {its its' : List Value} {n : Nat} {f : Array Value → Array Value} {t' : Nat} (I : Inv X pins σ H s) (hH : H l = some (.lst xs))
    (e : s.heap.get? l = some { cls := .type "list", data := .seq its.toArray n }) (hf : f its.toArray = its'.toArray) (hv : Vals ys its') (hz : ys.length ≤ sizeLine) :
    Inv X pins σ (upd H l (.lst ys)) { s with heap := s.heap.update l (Obj.mapSeq f), toks := t' } := by
  have q := PySem.IsL.update e f
  rw [hf] at q
  refine I.write (x := l) (e := l) (by rw [hH]; exact trivial) (.inl rfl) (fun b' u hb hu => (Heap.get?_update_other s.heap (Obj.mapSeq f) (Ne.symm hb)).trans hu) ⟨_, q⟩ ?_
  exact ⟨hz, its', _, hv, q⟩
theorem Inv.lnew {its : List Value} {t' : Nat} (I : Inv X pins σ H s) (hv : Vals ys its) (hz : ys.length ≤ sizeLine) :
    Inv X pins σ (upd H s.heap.objs.size (.lst ys)) { s with heap := s.heap.push { cls := .type "list", data := .seq its.toArray }, toks := t' } :=
  I.laid (fun _ _ q => Heap.get?_push_of_some _ q) (Nat.le_refl _) ⟨hz, its, 0, hv, Heap.get?_push_size _ rfl⟩
theorem Inv.fresh (I : Inv X pins σ H s) : H s.heap.objs.size = none := I.hok.fresh (Nat.le_refl _)
theorem Inv.lstM (I : Inv X pins σ H s) (hH : H l = some (.lst xs)) : xs.length ≤ sizeLine ∧ ∃ (its : List Value) (n : Nat), Vals xs its ∧ xs.length = its.length ∧ s.heap.get? l = some { cls := .type "list", data := .seq its.toArray n } := by
  obtain ⟨z, its, n, r, e⟩ := I.hok l _ hH
  exact ⟨z, its, n, r, r.length, e⟩
theorem notLongL {n : Nat} (h : n ≤ sizeLine) : Builtin.List.listTooLong n = false := by
  unfold Builtin.List.listTooLong
  exact decide_eq_false (by lia)
end
section
variable {X : Cx}
def rAppend : V → List V → Hp → VK → Prop := fun x vs H Q => ∃ l xs y, x = .ref l ∧ vs = [y] ∧ H l = some (.lst xs) ∧ xs.length < sizeLine ∧ Q .non (upd H l (.lst (xs ++ [y])))
theorem mt_append : MtM X "list.append" rAppend := by
  intro pins s σ H x vs v us Q I rx rv h
  obtain ⟨l, xs, y, rfl, rfl, hH, hz, q⟩ := h
  cases rx
  obtain ⟨u, rfl, ru⟩ := rv.one
  obtain ⟨z, its, n, r, hl, e⟩ := I.lstM hH
  refine call_meets F.slot_list_append ⟨_, e, rfl⟩ F.entry_list_append (F.args_list_append_2 _ _) (PySem.list_append l its.toArray n u (by rw [List.size_toArray]; lia)) ⟨e, ?_⟩
  refine ⟨.non, _, I.lset (its' := its ++ [u]) hH e (by simp) (r.append (.cons ru .nil)) ?_, rfl, q⟩
  rw [List.length_append, List.length_singleton]
  lia
end
section
variable {prog : Program} {w : World} {A : Around} {E : Value → Shared → Prop} {s : Shared}
end
section
variable {X : Cx}
end
end L2
namespace Att
open PySem PySem.W PySem.Calls PyProof.Rows
theorem ints_of_wellAll {P : Params} {h : Heap} : ∀ (ns : List Int) (vs : List Value), WellAll P h vs (ns.map WData.int) → IntsAre vs ns := by
  intro ns
  induction ns with
  | nil =>
    intro vs w
    rw [List.map_nil] at w
    cases w
    exact .nil
  | cons n ns ih =>
    intro vs w
    rw [List.map_cons] at w
    cases w with
    | cons a b =>
      cases a
      exact .cons _ _ (ih _ b)
theorem script_of {l : OpenLaw} {n : Nat} (hn : l.most = some n) {P : Params} {h : Heap} {args : List WData} {vals : List Value}
    (hpre : l.row.toRowW.claim.pre args = true) (hwl : WellAll P h vals args) :
    ∃ a vs ns, vals = [Value.ref a] ∧ args = [WData.list (ns.map WData.int)] ∧ h.get? a = some { cls := .type "list", data := .seq vs.toArray } ∧ IntsAre vs ns ∧ ns.length ≤ n := by
  have hsh : WShape.hasAll [] args [.list .int] = true := (pre_splitW hpre).1
  have hc : l.pre.holds [] { args := args } = true := (pre_splitW hpre).2
  obtain ⟨d, r, rfl, h1, h2⟩ := hasAllW_cons hsh
  obtain rfl := hasAllW_nil h2
  obtain ⟨xs, rfl, h3⟩ := hasW_list h1
  obtain ⟨ns, rfl⟩ := items_int h3
  have hlen : ns.length ≤ n := by
    unfold OpenLaw.pre at hc
    have h4 : (WTm.not (.lt (.lit (.int (n : Int))) (.len (.arg 0)))).holds [] { args := [.list (ns.map .int)] } = true := by
      have h4 := (holds_andW hc).1
      rw [hn] at h4
      exact h4
    have h5 := condW_of h4 (w_not (w_lt w_lit (w_len_list (w_arg rfl))))
    rw [List.length_map] at h5
    refine Nat.le_of_not_lt fun q => ?_
    have q' : (n : Int) < ((ns.length : Nat) : Int) := by lia
    first
      | (rw [decide_eq_true q'] at h5; exact absurd h5 (by decide))
      | (simp at h5; lia)
  cases hwl with
  | cons w1 w2 =>
    cases w2
    cases w1 with
    | list ho hall => exact ⟨_, _, ns, rfl, rfl, ho, ints_of_wellAll ns _ hall, hlen⟩
theorem post_true (l : OpenLaw) (args : List WData) : l.row.toRowW.claim.post args (.bool true) args = true :=
  postW_of (r := l.row.toRowW) (X := (true == true))
    (show WShape.has [] (.bool true) .bool = true by first | rfl | decide | simp [WShape.has, WShape.arms, WShape.armsAll])
    (show (WTm.eq .res (.lit (.bool true))).value [] { args := args, res := some (.bool true), after := args } = some (.bool (true == true)) from w_eq_bool (w_res rfl) w_lit) rfl
theorem attach_call {l : OpenLaw} {n : Nat} {q : Program} {loose : List Str} {XP : (Str → Option Value) → Heap → Prop} {YP : World → Heap → Prop} {d : DefRec}
    (hn : l.most = some n) (hdf : d.params.defaults = [])
    (call : ∀ (w : World) (s₀ s₁ : Shared) (mg mb : Str → Option Value) (fa : Addr) (o : Obj) (pm cd doc : Value) (a : Addr) (vs : List Value) (ns : List Int),
      Ground q loose [] XP w s₀ mg mb s₁.heap → YP w s₁.heap →
      s₁.heap.get? fa = some o → o.data = .func (docDef d.name d.params d.body d.scope pm cd doc) → s₁.heap.CodeRec cd d.name → mg d.name = some (.ref fa) →
      s₁.heap.get? a = some { cls := .type "list", data := .seq vs.toArray } → IntsAre vs ns → ns.length ≤ n → s₁.gens = #[] →
      codeAny (model l.prog w) callerA (.call (.ref fa) ⟨[.ref a], []⟩) (fun r s' => r = .ok (.ret (.bool true)) ∧ OldK s₁.heap s'.heap ∧ s'.os = s₁.os ∧ AllBare s'.gens) s₁) :
    WalkO q loose XP YP l.row.toRowW d [] (fun f vs => PySem.call f vs) := by
  intro w s₀ s₁ mg mb G Y fa o pm cd doc dV kV ho hd hcd hD hmg hg args vals as hpre hlay hrd hwl hlo
  obtain rfl : dV = .none := Dflts.none hD hdf
  obtain rfl : kV = .none := Dflts.noKw hD
  obtain ⟨a, vs, ns, rfl, rfl, hobj, hints, hlen⟩ := script_of hn hpre hwl
  refine enter_call (codeAny_mono (call w s₀ s₁ mg mb fa o pm cd doc a vs ns G Y ho (fd_plain hd) hcd hmg hobj hints hlen hg) fun r s' hq => ?_)
  obtain ⟨rfl, h2, h3, h4⟩ := hq
  exact ⟨.inl ⟨.bool true, .bool true, [], rfl, fun _ => rfl, .bool true, post_true l _, fun _ => ⟨List.Pairwise.nil, fun _ hm => (nomatch hm)⟩⟩, h2, h3, h4⟩
section
variable {prog : Program} {w : World} {A : Around} {E : Value → Shared → Prop} {s : Shared} {K : Frag}
end
end Att
namespace L2
open PySem PySem.Spec PyProof.Rows
theorem vals_ints : ∀ {vs : List Value} {ns : List Int}, IntsAre vs ns → Vals (ns.map V.int) vs
  | _, _, .nil => .nil
  | _, _, .cons n t h => .cons ⟨t, rfl⟩ (vals_ints h)
end L2
namespace L2
open PySem PySem.Spec PyProof.Rows
end L2
namespace L2
open PySem PySem.Spec PyProof.Rows
def defArgs (s : Stmt) : Arguments := match s with
  | .FunctionDef _ a _ _ _ _ _ _ _ _ => a
  | _ => { posonlyargs := [], args := [], vararg := none, kwonlyargs := [], kw_defaults := [], kwarg := none, defaults := [] }
def defBody (s : Stmt) : List Stmt := match s with
  | .FunctionDef _ _ b _ _ _ _ _ _ _ => b
  | _ => []
def defScope (s : Stmt) : Scope := match s with
  | .FunctionDef _ _ _ _ _ _ sc _ _ _ => sc
  | _ => { kind := .function, names := [], isGenerator := false, isCoroutine := false }
abbrev CX0 : CXT := fun _ _ _ _ _ _ => False
abbrev E0 : XK := fun _ _ _ => False
theorem pass0 {X : Cx} : Passes CX0 X E0 := fun _ _ _ _ _ _ _ h => h.elim
section
variable {P : Program} {w : World} {K : PySem.W.Frag} {mg : Str → Option Value} {base : Heap}
end
section
variable {X : Cx}
theorem pv (i : Nat) {x : Str} {pos : Pos} (hN : X.N[i]? = some x := by rfl) (hv : Vis X.env.scope x := by first | exact Or.inl rfl | exact Or.inr (Or.inl rfl) | exact Or.inr (Or.inr rfl)) (hd : (x == ("__debug__" : Str)) = false := by decide)
    (hcd : (x == ("__classdict__" : Str)) = false := by decide) : PE X (.Name x pos) (tVar i) := pe_var hN hv hd hcd
end
theorem iteF {A B : Prop} (h : B) : if false = true then A else B := by
  rw [if_neg Bool.false_ne_true]
  exact h
theorem iteT {A B : Prop} (h : A) : if true = true then A else B := by
  rw [if_pos rfl]
  exact h
def Same (H H' : Hp) : Prop := ∀ b o, H b = some o → H' b = some o
theorem Same.refl (H : Hp) : Same H H := fun _ _ h => h
theorem Same.trans {H H1 H2 : Hp} (a : Same H H1) (b : Same H1 H2) : Same H H2 := fun c o h => b c o (a c o h)
theorem Same.free {H H' : Hp} (e : Same H H') {l : Addr} (h : H' l = Option.none) : H l = Option.none := by
  cases q : H l with
  | none => rfl
  | some o =>
    rw [e l o q] at h
    cases h
theorem Same.seq {K : PySem.W.Frag} {H H' : Hp} {a : Addr} {xs : List V} (e : Same H H') (h : SqL K H a xs) : SqL K H' a xs := by
  rcases h with (h | ⟨o, h⟩) | h
  · exact .inl (.inl (e _ _ h))
  · exact .inl (.inr ⟨o, e _ _ h⟩)
  · exact .inr h
end L2
set_option maxRecDepth 100000
set_option maxHeartbeats 4000000
namespace L2
open PySem PySem.Spec PyProof.Rows
theorem closure_step (env : Env) : ∀ (names : List (Str × NameKind)) (acc : List (Str × Addr)),
    (∀ y ∈ names, y.2 = .free → ∃ c, env.cells.lookup y.1 = some c) → (∀ x c, acc.lookup x = some c → env.cells.lookup x = some c) →
    ∃ cl, (forIn names acc (fun (x : Str × NameKind) (r : List (Str × Addr)) => (do
        if x.2 == NameKind.free then do
          let a ← cellOf env x.1
          pure (ForInStep.yield ((x.1, a) :: r))
        else pure (ForInStep.yield r) : Sem (ForInStep (List (Str × Addr))))) : Sem (List (Str × Addr))) = pure cl ∧
      (∀ x c, cl.lookup x = some c → env.cells.lookup x = some c) ∧ (∀ x c, acc.lookup x = some c → ∃ d, cl.lookup x = some d) ∧ (∀ y ∈ names, y.2 = .free → ∃ c, cl.lookup y.1 = some c)
  | [], acc, _, h2 => ⟨acc, rfl, h2, fun x c h => ⟨c, h⟩, fun y hy => by cases hy⟩
  | (n, k) :: r, acc, h1, h2 => by
    by_cases hk : k = NameKind.free
    · subst hk
      obtain ⟨c, hc⟩ := h1 (n, .free) List.mem_cons_self rfl
      have h2' : ∀ x d, ((n, c) :: acc).lookup x = some d → env.cells.lookup x = some d := fun x d e => by
        rw [List.lookup_cons] at e
        split at e
        · rename_i q
          have q' : x = n := by simpa using q
          subst q'
          cases e
          exact hc
        · exact h2 x d e
      obtain ⟨cl, e, a1, a2, a3⟩ := closure_step env r ((n, c) :: acc) (fun y hy => h1 y (List.mem_cons_of_mem _ hy)) h2'
      refine ⟨cl, ?_, a1, fun x d e2 => ?_, fun y hy hf => ?_⟩
      · rw [List.forIn_cons]
        simp only [beq_self_eq_true, if_true]
        have hco : cellOf env n = pure c := by unfold cellOf; rw [hc]
        rw [hco]
        exact e
      · by_cases q : x = n
        · subst q
          exact a2 x c (by rw [List.lookup_cons]; simp)
        · exact a2 x d (by rw [List.lookup_cons, show (x == n) = false by simpa using q]; exact e2)
      · rcases List.mem_cons.mp hy with rfl | hy
        · exact a2 n c (by rw [List.lookup_cons]; simp)
        · exact a3 y hy hf
    · obtain ⟨cl, e, a1, a2, a3⟩ := closure_step env r acc (fun y hy => h1 y (List.mem_cons_of_mem _ hy)) h2
      refine ⟨cl, ?_, a1, a2, fun y hy hf => ?_⟩
      · rw [List.forIn_cons]
        have hb : (k == NameKind.free) = false := by simpa using hk
        simp only [hb, Bool.false_eq_true, if_false]
        exact e
      · rcases List.mem_cons.mp hy with rfl | hy
        · exact absurd hf hk
        · exact a3 y hy hf
theorem closure_ok {scope : Scope} {env : Env} (h : ∀ y ∈ scope.names, y.2 = .free → ∃ c, env.cells.lookup y.1 = some c) :
    ∃ cl, closureFor scope env = pure cl ∧ (∀ x c, cl.lookup x = some c → env.cells.lookup x = some c) ∧ (∀ y ∈ scope.names, y.2 = .free → ∃ c, cl.lookup y.1 = some c) := by
  obtain ⟨cl, e, a1, _, a3⟩ := closure_step env scope.names [] h (fun x c q => by cases q)
  refine ⟨cl, ?_, a1, a3⟩
  unfold closureFor
  exact (congrArg (fun m => m >>= fun r => (pure r : Sem (List (Str × Addr)))) e).trans rfl
end L2
set_option maxRecDepth 100000
set_option maxHeartbeats 4000000
namespace L2
open PySem PySem.Spec PyProof.Rows
abbrev ifsSem (ifs : List Expr) (env : Env) : Sem Bool :=
  forIn ifs true fun c r => if r = true then do let ok ← isTrue c env (eval c env); pure (ForInStep.yield ok) else pure (ForInStep.yield r)
def PIfs (X : Cx) (ifs : List Expr) (t : TT) : Prop :=
  ∀ (pins : List (Addr × Obj)) (s : Shared) (σ : St) (H : Hp) (Q : Bool → Hp → Prop), Inv X pins σ H s → t σ H Q → wpAny (model X.prog X.w) X.A (ifsSem ifs X.env) (TP X pins σ Q) X.xe s
def tTrue : TT := fun _ H Q => Q true H
theorem pifs_nil {X : Cx} : PIfs X [] tTrue := fun pins s σ H Q I h => wpAny_tests_nil ⟨H, I, h⟩
theorem pifs_one {X : Cx} {c : Expr} {t : TT} (h : PT X c t) : PIfs X [c] t := fun pins s σ H Q I hq => wpAny_tests_one (h pins s σ H Q I hq)
section
variable {prog : Program} {w : World} {A : Around} {R : Result → Shared → Prop} {s : Shared}
theorem compLoop_go {elt target iter : Expr} {ifs : List Expr} {scope : Scope} {pos : Pos} {it acc : Value} {env : Env} (I : Nat → Shared → Prop)
    (turn : ∀ n s, I n s → wpAny (model prog w) A (pyNext it) (fun r s₁ => match r with
      | none => R (.ok .next) s₁
      | some v => wpAny (model prog w) A (letOwnedTupleGo target it v) (fun _ s' => wpAny (model prog w) A (assign target env v) (fun _ s₂ =>
          wpAny (model prog w) A (ifsSem ifs env) (fun ok s₃ =>
            if ok = true then wpAny (model prog w) A (eval elt env) (fun x s₄ =>
              wpAny (model prog w) A (call (.builtin "list.append") [acc, x]) (fun _ s₅ => ∃ m, m < n ∧ I m s₅) (fun _ _ => False) s₄) (fun _ _ => False) s₃
            else ∃ m, m < n ∧ I m s₃) (fun _ _ => False) s₂) (fun _ _ => False) s') (fun _ _ => False) s₁) (fun _ _ => False) s)
    (n : Nat) (h : I n s) :
    codeAny (model prog w) A (.compLoop (.ListComp elt [⟨target, iter, ifs, 0⟩] scope pos) 0 it acc env) R s := by
  refine codeAny_loop rfl I (fun n s hI => ?_) n h
  show wpAny _ A ((compTurn (.ListComp elt [⟨target, iter, ifs, 0⟩] scope pos) 0 it acc env).onRaise (fun x => do noteFrame x env; theTreesLotGoes x)) _ _ s
  refine wpAny_noted ?_
  rw [compTurn_list]
  refine wpAny_bind (wpAny_standAt (wpAny_bind (wpAny_mono (turn n s hI) (fun r s₁ h₁ => ?_) fun _ _ h' => h'.elim)))
  cases r with
  | none => exact wpAny_pure h₁
  | some v =>
    refine wpAny_bind (wpAny_mono h₁ (fun _ s' h' => ?_) fun _ _ h' => h'.elim)
    refine wpAny_bind (wpAny_mono h' (fun _ s₂ h₂ => wpAny_bind (wpAny_mono h₂ (fun ok s₃ h₃ => ?_) fun _ _ h' => h'.elim)) fun _ _ h' => h'.elim)
    cases ok with
    | false => exact wpAny_pure ⟨rfl, h₃⟩
    | true =>
      exact wpAny_bind (wpAny_bind (wpAny_mono h₃ (fun x s₄ h₄ => wpAny_bind (wpAny_mono h₄ (fun _ s₅ h₅ => wpAny_pure (wpAny_pure ⟨rfl, h₅⟩)) fun _ _ h' => h'.elim)) fun _ _ h' => h'.elim))
end
abbrev cxComp (X : Cx) (N' : List Str) (scope : Scope) (cl : List (Str × Addr)) (C : Addr) (s₀ : Shared) (H₀ : Hp) (fp : List Addr) : Cx :=
  { X with N := N', env := compEnvC scope cl C X.env, s₀ := s₀, H₀ := H₀, outer := X.stack, ex := fp, fn := fun _ => false, pn := [], xe := fun _ _ => False }
structure CapOk (X : Cx) (N' : List Str) (scope : Scope) (cap : List (Option Nat)) : Prop where
  kind : scope.kind = .function
  cell : ∀ y ∈ scope.names, y.2 ≠ .cell
  names : ∀ y ∈ scope.names, y.2 = .local → scope.names.lookup y.1 = some .local
  frees : ∀ y ∈ scope.names, y.2 = .free → X.env.kindOf y.1 = some .cell ∨ X.env.kindOf y.1 = some .free
  len : cap.length = N'.length
  cap : ∀ (i j : Nat), cap[i]? = some (some j) → ∃ x, N'[i]? = some x ∧ X.N[j]? = some x ∧ scope.names.lookup x = some .free
def capS (cap : List (Option Nat)) (σ : St) : St := cap.map fun o => o.bind fun j => (σ[j]?).join
theorem lookup_mem {α β : Type} [BEq α] [LawfulBEq α] {l : List (α × β)} {a : α} {b : β} (h : l.lookup a = some b) : (a, b) ∈ l := by
  induction l with
  | nil => cases h
  | cons p r ih =>
    obtain ⟨x, y⟩ := p
    rw [List.lookup_cons] at h
    split at h
    · rename_i q
      have q' : a = x := by simpa using q
      subst q'
      cases h
      exact List.mem_cons_self
    · exact List.mem_cons_of_mem _ (ih h)
theorem relabel_kind {env : Env} : ∀ {names : List (Str × NameKind)} {x : Str} {k : NameKind}, (names.map fun (n, k) => if (k == NameKind.free && env.scope.kind == .function && env.kindOf n == some .cell) then (n, NameKind.cell) else (n, k)).lookup x = some k →
    (names.lookup x = some k) ∨ (k = .cell ∧ names.lookup x = some .free)
  | [], _, _, h => by cases h
  | (n, k0) :: r, x, k, h => by
    have ih := @relabel_kind env r x k
    have h' : List.lookup x ((if (k0 == NameKind.free && env.scope.kind == .function && env.kindOf n == some .cell) = true then (n, NameKind.cell) else (n, k0)) :: _) = some k := h
    by_cases hc : (k0 == NameKind.free && env.scope.kind == .function && env.kindOf n == some .cell) = true
    · rw [if_pos hc, List.lookup_cons] at h'
      have hf : k0 = .free := by
        simp only [Bool.and_eq_true, beq_iff_eq] at hc
        exact hc.1.1
      cases q : x == n with
      | true => rw [q] at h'; cases h'; exact .inr ⟨rfl, by rw [List.lookup_cons, q, hf]⟩
      | false => rw [q] at h'; rw [List.lookup_cons, q]; exact ih h'
    · rw [if_neg hc, List.lookup_cons] at h'
      cases q : x == n with
      | true => rw [q] at h'; rw [List.lookup_cons, q]; exact .inl h'
      | false => rw [q] at h'; rw [List.lookup_cons, q]; exact ih h'
theorem relabel_free {env : Env} : ∀ {names : List (Str × NameKind)} {x : Str}, names.lookup x = some .free →
    (names.map fun (n, k) => if (k == NameKind.free && env.scope.kind == .function && env.kindOf n == some .cell) then (n, NameKind.cell) else (n, k)).lookup x = some .cell ∨
    (names.map fun (n, k) => if (k == NameKind.free && env.scope.kind == .function && env.kindOf n == some .cell) then (n, NameKind.cell) else (n, k)).lookup x = some .free
  | [], _, h => by cases h
  | (n, k0) :: r, x, h => by
    have ih := @relabel_free env r x
    show List.lookup x ((if (k0 == NameKind.free && env.scope.kind == .function && env.kindOf n == some .cell) = true then (n, NameKind.cell) else (n, k0)) :: _) = _ ∨ List.lookup x ((if (k0 == NameKind.free && env.scope.kind == .function && env.kindOf n == some .cell) = true then (n, NameKind.cell) else (n, k0)) :: _) = _
    rw [List.lookup_cons] at h
    by_cases hc : (k0 == NameKind.free && env.scope.kind == .function && env.kindOf n == some .cell) = true
    · rw [if_pos hc, List.lookup_cons]
      cases q : x == n with
      | true => exact .inl rfl
      | false => rw [q] at h; exact ih h
    · rw [if_neg hc, List.lookup_cons]
      cases q : x == n with
      | true => rw [q] at h; exact .inr h
      | false => rw [q] at h; exact ih h
section
variable {X : Cx} {pins : List (Addr × Obj)} {σ : St} {H : Hp} {s : Shared} {N' : List Str} {scope : Scope} {cap : List (Option Nat)} {cl : List (Str × Addr)} {fp : List Addr}
theorem inv_comp (I : Inv X pins σ H s) (co : CapOk X N' scope cap) (h1 : ∀ x c, cl.lookup x = some c → X.env.cells.lookup x = some c) (h2 : ∀ y ∈ scope.names, y.2 = .free → ∃ c, cl.lookup y.1 = some c)
    (hf : ∀ b ∈ fp, FpOk X pins H b) (ho : ∀ b ∈ fp, ∃ o, s.heap.get? b = some o) {h' : Heap} {t' : Nat} {m : Str → Option Value} (hn : h'.Ns s.heap.objs.size m) (hk : ∀ b o, s.heap.get? b = some o → h'.get? b = some o) :
    Inv (cxComp X N' scope cl s.heap.objs.size s H fp) [] (capS cap σ) H { s with heap := h', toks := t' } := by
  have flt : ∀ b ∈ fp, b < s.heap.objs.size := fun b hb => let ⟨o, e⟩ := ho b hb; Heap.lt_size e
  refine ⟨⟨I.ok.mod, co.kind, I.ok.glob, I.ok.blt, Nat.le_refl _, fun x y c e1 e2 => I.ok.inj x y c (h1 x c e1) (h1 y c e2), fun x hx => ?_, fun x c z _ => (nomatch z), I.ok.hd, I.ok.frames, .inl rfl, fun b hb => ?_, I.bs, Nat.le_trans I.ok.bsz I.sz, fun b o e hb => ?_, fun b hb z => ?_, I.stack, I.stkFree⟩,
    rfl, I.bare, Un.kept hk, ⟨m, hn, fun i x v e1 e2 e3 => ?_⟩, fun x c e => ?_, I.hok.fresh (Nat.le_refl _), fun x c e => I.freeC x c (h1 x c e), fun p hp => (nomatch hp), I.hok.kept hk, ?_⟩
  · have hx' : (relabel scope X.env).names.lookup x = some .cell ∨ (relabel scope X.env).names.lookup x = some .free := hx
    have hfree : scope.names.lookup x = some .free := by
      rcases hx' with q | q
      · rcases relabel_kind q with z | ⟨_, z⟩
        · exact absurd rfl (co.cell _ (lookup_mem z))
        · exact z
      · rcases relabel_kind q with z | ⟨z, _⟩
        · exact z
        · cases z
    exact h2 (x, .free) (lookup_mem hfree) rfl
  · obtain ⟨f0, f1, f2, f3, f4, f5⟩ := hf b hb
    exact ⟨Nat.ne_of_lt (flt b hb), fun x c e => f4 x c (h1 x c e)⟩
  · obtain ⟨f0, f1, f2, f3, f4, f5⟩ := hf b hb
    rcases f3 with z | z
    · exact I.ok.noex b o e z
    · exact absurd (Nat.lt_of_lt_of_le (Heap.lt_size e) (Nat.le_trans I.ok.bsz z)) (Nat.lt_irrefl _)
  · obtain ⟨f0, f1, f2, f3, f4, f5⟩ := hf b hb
    rcases List.mem_cons.mp (I.stkSub b z) with q | q
    · exact f1 q
    · exact f2 q
  · -- a captured name
    have e2' : (cap.map fun o => o.bind fun j => (σ[j]?).join)[i]? = some (some v) := e2
    rw [List.getElem?_map] at e2'
    cases q : cap[i]? with
    | none => rw [q] at e2'; cases e2'
    | some o =>
      rw [q] at e2'
      cases o with
      | none => cases e2'
      | some j =>
        obtain ⟨y, a1, a2, a3⟩ := co.cap i j q
        have e1' : N'[i]? = some x := e1
        rw [a1] at e1'
        obtain rfl : y = x := Option.some.inj e1'
        have ej : (σ[j]?).join = some v := by
          have := e2'
          simp only [Option.map_some, Option.bind_some, Option.some.injEq] at this
          exact this
        have ej' : σ[j]? = some (some v) := by
          cases z : σ[j]? with
          | none => rw [z] at ej; cases ej
          | some u => rw [z] at ej; simp only [Option.join_some] at ej; rw [ej]
        have kd := co.frees (y, .free) (lookup_mem a3) rfl
        obtain ⟨m0, hn0, hl0⟩ := I.loc
        have vis : Vis X.env.scope y := by
          rcases kd with k | k
          · exact .inr (.inl k)
          · exact .inr (.inr k)
        obtain ⟨u, ru, lk⟩ := hl0 j y v a2 ej' vis
        refine ⟨u, ru, .inr ⟨relabel_free a3, ?_⟩⟩
        obtain ⟨c, hc⟩ := h2 (y, .free) (lookup_mem a3) rfl
        rcases lk with ⟨k, _⟩ | ⟨_, c', hc', z⟩
        · rcases kd with k' | k'
          · rw [k] at k'; cases k'
          · rw [k] at k'; cases k'
        · have := h1 _ _ hc
          rw [hc'] at this
          obtain rfl : c' = c := Option.some.inj this
          obtain ⟨o, eo, ed⟩ := z
          exact ⟨c', hc, o, hk _ _ eo, ed⟩
  · obtain ⟨v, o, eo, ed⟩ := I.cell x c (h1 x c e)
    exact ⟨v, o, hk _ _ eo, ed⟩
  · show (cap.map _).length = N'.length
    rw [List.length_map]; exact co.len
theorem inv_behind {N' : List Str} {C : Addr} {H' : Hp} {s' : Shared} {σ' : St} {h' : Heap} (I : Inv X pins σ H s) (hf : ∀ b ∈ fp, FpOk X pins H b) (J : Inv (cxComp X N' scope cl C s H fp) [] σ' H' s') (hs : Heap.SameBut C s'.heap h') :
    Inv X pins σ H' { s' with heap := h' } := by
  have hC : s.heap.objs.size ≤ C := J.ok.above
  have kp : ∀ b o, b ≠ C → s'.heap.get? b = some o → h'.get? b = some o := fun b o hb e => (hs.2 b hb).trans e
  have hC0 : H' C = none := J.free
  have un : Un (frs X.stack) fp H H' s.heap h' := by
    have u : Un (frs X.stack) fp H H' s.heap s'.heap := J.base
    have neC : ∀ b o, s.heap.get? b = some o → b ≠ C := fun b o e => Nat.ne_of_lt (Nat.lt_of_lt_of_le (Heap.lt_size e) hC)
    exact ⟨fun b o e n h1 h2 => kp b o (neC b o e) (u.keep b o e n h1 h2), fun b o e n h1 h2 => let ⟨sl, q⟩ := u.slot b o e n h1 h2; ⟨sl, kp b _ (neC b o e) q⟩, u.free, fun b o e h => let ⟨o', q⟩ := u.there b o e h; ⟨o', kp b o' (neC b o e) q⟩, u.tups, u.frzs, u.tbls⟩
  have hok : HOk X.prog X.w H' h' := fun b u e => by
    refine (J.hok b u e).stay (fun c v hc q => kp c v ?_ q) (fun _ q => q) fun _ _ q => q
    rcases hc with z | z
    · rw [z]; intro z2; rw [z2, hC0] at e; cases e
    · intro z2; rw [z2, hC0] at z; cases z
  exact I.call' (s' := { s' with heap := h' }) (ch := fp) J.os un hok J.bare fun b hb => by
    obtain ⟨f0, f1, f2, f3, f4, f5⟩ := hf b hb
    exact ⟨f3, f1, f4, f5⟩
end
end L2
set_option maxRecDepth 100000
set_option maxHeartbeats 4000000
namespace L2
open PySem PySem.Spec PyProof.Rows
def cmpW (J : It) (cap : List (Option Nat)) (g : TG) (tc : TT) (te : TE) (σ : St) (H1 : Hp) (p : Addr) (K : Hp → Prop) : Prop :=
  ∃ W : Nat → Nat → St → Hp → Prop, (∃ m, W 0 m (capS cap σ) (upd H1 p (.lst []))) ∧ ∀ i m σ' H', W i m σ' H' →
    (J.stop i H' ∧ K H') ∨ (J.go i H' ∧ ∀ x H'', J.yld i H' x H'' → g x σ' H'' fun σ2 H2 => tc σ2 H2 fun b H3 =>
      if b = true then te σ2 H3 fun y H4 => ∃ xs, H4 p = some (.lst xs) ∧ xs.length < sizeLine ∧ ∃ m', m' < m ∧ W (i + 1) m' σ2 (upd H4 p (.lst (xs ++ [y])))
      else ∃ m', m' < m ∧ W (i + 1) m' σ2 H3)
def tComp (wi : TI) (cap : List (Option Nat)) (g : TG) (tc : TT) (te : TE) : TE := fun σ H Q => wi σ H fun J H1 => ∀ p, H1 p = none → cmpW J cap g tc te σ H1 p (Q (.ref p))
section
variable {X : Cx} {N' : List Str} {scope : Scope} {cap : List (Option Nat)} {tg iter elt : Expr} {ifs : List Expr} {wi : TI} {g : TG} {tc : TT} {te : TE} {pos : Pos}
theorem comp_core {cl : List (Str × Addr)} {pins : List (Addr × Obj)} {s : Shared} {σ : St} {H : Hp} {it : Addr} {fp : List Addr} {tn : Nat → Heap → Prop} {J : It} {E : Value → Shared → Prop} {K : Addr → Hp → Prop}
    {RR : Value → Addr → Result → Shared → Prop} (hc : X.calm = true) (co : CapOk X N' scope cap)
    (h1 : ∀ x c, cl.lookup x = some c → X.env.cells.lookup x = some c) (h2 : ∀ y ∈ scope.names, y.2 = .free → ∃ c, cl.lookup y.1 = some c)
    (hg : ∀ cl C s₀ H₀ fp, PG (cxComp X N' scope cl C s₀ H₀ fp) tg g) (hcs : ∀ cl C s₀ H₀ fp, PIfs (cxComp X N' scope cl C s₀ H₀ fp) ifs tc) (he : ∀ cl C s₀ H₀ fp, PE (cxComp X N' scope cl C s₀ H₀ fp) elt te)
    (I : Inv X pins σ H s) (T : Turn X.prog X.w X.K tg J fp it tn) (st : tn 0 s.heap) (hf : ∀ b ∈ fp, FpOk X pins H b) (h : ∀ p, H p = none → cmpW J cap g tc te σ H p (K p))
    (hRR : ∀ (D C : Addr) (s' : Shared) (H' : Hp), s.heap.objs.size ≤ C → (∃ m, s'.heap.Ns C m) → (∀ h', Heap.SameBut C s'.heap h' → Inv X pins σ H' { s' with heap := h' }) → H' C = none → K D H' → RR (.ref D) C (.ok .next) s') :
    wpAny (model X.prog X.w) X.A (newList []) (fun acc s₃ => wpAny (model X.prog X.w) X.A (newFunctionEnv scope X.env.globals cl [] X.env.qual none .none (some X.env)) (fun cenv s₄ =>
      codeAny (model X.prog X.w) X.A (.compStart (.ListComp elt [⟨tg, iter, ifs, 0⟩] scope pos) 0 (.ref it) acc { cenv with scope := relabel scope X.env }) (RR acc cenv.locals) s₄) E s₃) E s := by
  refine wpAny_newObj_type (wpAny_newFunctionEnv co.cell (by intro y hy; simp at hy) (fun hh hns hsb => ?_) co.kind)
  have hD : H s.heap.objs.size = none := I.fresh
  have I3 : Inv X pins σ (upd H s.heap.objs.size (.lst [])) { s with heap := s.heap.push { cls := .type "list", dict := none, data := .seq ([] : List Value).toArray } } := I.lnew (ys := []) (its := []) (t' := s.toks) .nil (Nat.zero_le _)
  obtain ⟨W, ⟨m0, w0⟩, turn⟩ := h s.heap.objs.size hD
  have fobj : ∀ b ∈ fp, ∃ o, s.heap.get? b = some o := fun b hb => let ⟨o, e, _⟩ := T.obj 0 _ st b hb; ⟨o, e⟩
  generalize e3 : ({ s with heap := s.heap.push { cls := .type "list", dict := none, data := .seq ([] : List Value).toArray } } : Shared) = s3 at I3
  have es3 : s3.heap = s.heap.push { cls := .type "list", dict := none, data := .seq ([] : List Value).toArray } := by rw [← e3]
  have eC : (s.heap.push { cls := .type "list", dict := none, data := .seq ([] : List Value).toArray }).objs.size = s3.heap.objs.size := by rw [es3]
  have hf3 : ∀ b ∈ fp, FpOk X pins (upd H s.heap.objs.size (.lst [])) b := fun b hb => by
    obtain ⟨f0, f1⟩ := hf b hb
    obtain ⟨o, e⟩ := fobj b hb
    exact ⟨by rw [upd_ne (Nat.ne_of_lt (Heap.lt_size e))]; exact f0, f1⟩
  have kp : ∀ b o, s3.heap.get? b = some o → hh.get? b = some o := fun b o e => by
    refine hsb.extBut b o ?_ (Heap.get?_push_of_some _ (by rw [← es3]; exact e))
    show b ≠ (s.heap.push { cls := .type "list", dict := none, data := .seq ([] : List Value).toArray }).objs.size
    rw [eC]
    exact Nat.ne_of_lt (Heap.lt_size e)
  have hle : s.heap.objs.size ≤ s3.heap.objs.size := by rw [es3, Heap.size_push]; exact Nat.le_succ _
  have s3e : ∀ t : Nat, ({ s with heap := hh, toks := t } : Shared) = { s3 with heap := hh, toks := t } := fun t => by rw [← e3]
  have I4 : Inv (cxComp X N' scope cl s3.heap.objs.size s3 (upd H s.heap.objs.size (.lst [])) fp) [] (capS cap σ) (upd H s.heap.objs.size (.lst [])) { s3 with heap := hh, toks := s.toks + ([] : List (Str × Value)).length } :=
    inv_comp I3 co h1 h2 hf3 (fun b hb => let ⟨o, e⟩ := fobj b hb; ⟨o, by rw [es3]; exact Heap.get?_push_of_some _ e⟩) (by rw [← eC]; exact hns) kp
  have st4 : tn 0 hh := T.keep 0 _ _ st fun b hb o e => kp b o (by rw [es3]; exact Heap.get?_push_of_some _ e)
  have etk : s3.toks + ([] : List (Str × Value)).length = s.toks + ([] : List (Str × Value)).length := by rw [← e3]
  show codeAny (model X.prog X.w) X.A (.compStart (.ListComp elt [⟨tg, iter, ifs, 0⟩] scope pos) 0 (.ref it) (.ref s.heap.objs.size) (compEnvC scope cl s3.heap.objs.size X.env)) (RR (.ref s.heap.objs.size) s3.heap.objs.size)
    { s3 with heap := hh, toks := s3.toks + ([] : List (Str × Value)).length }
  rw [etk]
  generalize eX : cxComp X N' scope cl s3.heap.objs.size s3 (upd H s.heap.objs.size (.lst [])) fp = X' at I4
  have hg' : PG X' tg g := by rw [← eX]; exact hg _ _ _ _ _
  have hcs' : PIfs X' ifs tc := by rw [← eX]; exact hcs _ _ _ _ _
  have he' : PE X' elt te := by rw [← eX]; exact he _ _ _ _ _
  have eenv : X'.env = compEnvC scope cl s3.heap.objs.size X.env := by rw [← eX]
  have exe : X'.xe = fun _ _ => False := by rw [← eX]
  have eex : X'.ex = fp := by rw [← eX]
  have eprog : X'.prog = X.prog := by rw [← eX]
  have ew : X'.w = X.w := by rw [← eX]
  have eK : X'.K = X.K := by rw [← eX]
  have eA : X'.A = X.A := by rw [← eX]
  have ecalm : X'.calm = true := by rw [← eX]; exact hc
  have epn : X'.pn = [] := by rw [← eX]
  have eloc : X'.env.locals = s3.heap.objs.size := by rw [eenv]; rfl
  have ok' := I4.ok
  have stat : ∀ {H' : Hp}, (∀ b ∈ fp, H' b = none) → ∀ b ∈ fp, FpOk X' [] H' b := fun hn b hb => by
    have hbx : b ∈ X'.ex := by rw [eex]; exact hb
    exact ⟨hn b hb, (ok'.exf b hbx).1, ok'.exfs b hbx, .inl hbx, (ok'.exf b hbx).2, fun p hp => by rw [epn] at hp; cases hp⟩
  have back : ∀ {σ' : St} {H' : Hp} {s' : Shared}, Inv X' [] σ' H' s' → K s.heap.objs.size H' → RR (.ref s.heap.objs.size) s3.heap.objs.size (.ok .next) s' := fun {σ' H' s'} J' k => by
    refine hRR _ _ _ H' hle ?_ (fun h' hs' => ?_) ?_ k
    · obtain ⟨m, hm, _⟩ := J'.loc
      exact ⟨m, by rw [← eloc]; exact hm⟩
    · rw [← eX] at J'
      exact inv_behind I3 hf3 J' hs'
    · rw [← eloc]; exact J'.free
  have loop : codeAny (model X.prog X.w) X.A (.compLoop (.ListComp elt [⟨tg, iter, ifs, 0⟩] scope pos) 0 (.ref it) (.ref s.heap.objs.size) (compEnvC scope cl s3.heap.objs.size X.env)) (RR (.ref s.heap.objs.size) s3.heap.objs.size)
      { s3 with heap := hh, toks := s.toks + ([] : List (Str × Value)).length } := by
    refine compLoop_go (fun n s' => ∃ i σ' H', Inv X' [] σ' H' s' ∧ tn i s'.heap ∧ (∀ b ∈ fp, H' b = none) ∧ W i n σ' H') ?_ m0 ⟨0, _, _, I4, st4, fun b hb => (hf3 b hb).1, w0⟩
    rintro n s5 ⟨i, σ5, H5, I5, st5, fr5, w5⟩
    rw [← eenv]
    rcases turn i n σ5 H5 w5 with ⟨stop, qn⟩ | ⟨go, step⟩
    · have := T.done X' eprog ew eK ecalm i [] s5 σ5 H5 (fun _ _ => False) I5 (stat fr5) st5 stop
      rw [eA] at this
      refine thn this fun r s6 ⟨hr, I6⟩ => ?_
      subst hr
      exact back I6 qn
    · have := T.item X' eprog ew eK ecalm i [] s5 σ5 H5 (fun _ _ => False) I5 (stat fr5) st5 go
      rw [eA] at this
      refine thn this fun r s6 ⟨u, hr, h6⟩ => ?_
      subst hr
      refine thn h6 fun _ s7 ⟨x, H7, I7, r7, y7, st7, fr7⟩ => ?_
      have I7' := I7.pinned (stat fr7) (T.obj _ _ st7)
      have hg2 := hg' _ s7 σ5 H7 x u _ I7' r7 (step x H7 y7)
      rw [exe, eprog, ew, eA] at hg2
      refine thn hg2 fun _ s8 ⟨σ8, H8, I8, q8⟩ => ?_
      have hc2 := hcs' _ s8 σ8 H8 _ I8 q8
      rw [exe, eprog, ew, eA] at hc2
      refine thn hc2 fun ok s9 ⟨H9, I9, q9⟩ => ?_
      have again : ∀ {H' : Hp} {s' : Shared} {m' : Nat}, Inv X' ([] ++ pinsAt fp s7.heap) σ8 H' s' → m' < n → W (i + 1) m' σ8 H' → ∃ m, m < n ∧ ∃ i σ' H', Inv X' [] σ' H' s' ∧ tn i s'.heap ∧ (∀ b ∈ fp, H' b = none) ∧ W i m σ' H' := fun {H' s' m'} J' hm w' => by
        refine ⟨m', hm, i + 1, σ8, H', J'.unpinned, T.keep _ _ _ st7 fun b hb o e => (J'.pin (b, o) (List.mem_append_right _ (List.mem_append_right _ (mem_pinsAt hb e)))).1, fun b hb => ?_, w'⟩
        obtain ⟨o, e, d⟩ := T.obj _ _ st7 b hb
        exact (J'.pin (b, o) (List.mem_append_right _ (List.mem_append_right _ (mem_pinsAt hb e)))).2.1
      cases ok with
      | false =>
        rw [if_neg Bool.false_ne_true] at q9 ⊢
        obtain ⟨m', hm, w'⟩ := q9
        exact again I9 hm w'
      | true =>
        rw [if_pos rfl] at q9 ⊢
        have he2 := he' _ s9 σ8 H9 _ I9 q9
        rw [exe, eprog, ew, eA] at he2
        refine thn he2 fun y s10 ⟨yv, H10, I10, r10, xs, hp, hz, m', hm, w'⟩ => ?_
        have ha2 := mt_append (X := X') ([] ++ pinsAt fp s7.heap) s10 σ8 H10 (.ref s.heap.objs.size) [yv] (.ref s.heap.objs.size) [y] (fun _ H' => H' = upd H10 s.heap.objs.size (.lst (xs ++ [yv]))) I10 rfl (.cons r10 .nil) ⟨_, xs, yv, rfl, rfl, hp, hz, rfl⟩
        rw [exe, eprog, ew, eA] at ha2
        refine thn ha2 fun _ s11 ⟨_, H11, I11, _, e11⟩ => ?_
        subst e11
        exact again I11 hm w'
  exact codeAny_compStart_list loop (T.self _ 0 _ _ _ st4 loop)
theorem pe_comp (hc : X.calm = true) (co : CapOk X N' scope cap) (hi : PI X tg iter wi)
    (hg : ∀ cl C s₀ H₀ fp, PG (cxComp X N' scope cl C s₀ H₀ fp) tg g) (hcs : ∀ cl C s₀ H₀ fp, PIfs (cxComp X N' scope cl C s₀ H₀ fp) ifs tc) (he : ∀ cl C s₀ H₀ fp, PE (cxComp X N' scope cl C s₀ H₀ fp) elt te)
    (hs : ∀ x, foldedSetIterable iter X.env x = pure x := by intro _; rfl) : PE X (.ListComp elt [⟨tg, iter, ifs, 0⟩] scope pos) (tComp wi cap g tc te) := by
  intro pins s σ H Q I h
  obtain ⟨cl, ecl, c1, c2⟩ := closure_ok (scope := scope) (env := X.env) fun y hy hf => I.ok.has y.1 (co.frees y hy hf)
  rw [eval_ListComp]
  refine wpAny_comprehension_free (use := none) rfl hs ecl co.kind co.names (wpAny_mono (hi pins s σ H _ I h) (fun v s1 h1 => wpAny_mono h1 (fun itv s2 h2 => ?_) fun _ _ e => e) fun _ _ e => e)
  obtain ⟨it, fp, tn, J, H2, rfl, I2, T, st2, f2, h2⟩ := h2
  refine comp_core (K := fun p => Q (.ref p)) (RR := fun acc C => compPost (model X.prog X.w) X.A X.xe none (EP X pins σ Q) acc C) hc co c1 c2 hg hcs he I2 T st2 f2 h2 ?_
  intro D C s' H' hle ⟨m, hm⟩ hI hC q
  exact ⟨m, hm, fun h' hs' => ⟨.ref D, H', hI h' hs', rfl, q⟩⟩
end
end L2
set_option maxRecDepth 100000
set_option maxHeartbeats 4000000
namespace L2
open PySem PySem.Spec PyProof.Rows
section
variable {X : Cx} {N' : List Str} {scope : Scope} {cap : List (Option Nat)} {tg iter elt : Expr} {ifs : List Expr} {wi : TI} {g : TG} {tc : TT} {te : TE} {pos : Pos}
theorem ps_setComp {i : Nat} {x : Str} {px pe : Pos} (hc : X.calm = true) (hN : X.N.Nodup) (hx0 : X.N[i]? = some x) (hx : X.env.scope.names.lookup x = some .local) (co : CapOk X N' scope cap) (hi : PI X tg iter wi)
    (hg : ∀ cl C s₀ H₀ fp, PG (cxComp X N' scope cl C s₀ H₀ fp) tg g) (hcs : ∀ cl C s₀ H₀ fp, PIfs (cxComp X N' scope cl C s₀ H₀ fp) ifs tc) (he : ∀ cl C s₀ H₀ fp, PE (cxComp X N' scope cl C s₀ H₀ fp) elt te)
    (hsw : swapsWith (.ListComp elt [⟨tg, iter, ifs, 0⟩] scope pe) (some (.Name x px)) pos.line X.env = pure true := by rfl)
    (hs : ∀ x, foldedSetIterable iter X.env x = pure x := by intro _; rfl) : PS X (.Assign [.Name x px] (.ListComp elt [⟨tg, iter, ifs, 0⟩] scope pe) pos) (tAsg (tComp wi cap g tc te) (gName i)) := by
  intro pins s σ H D I h
  obtain ⟨cl, ecl, c1, c2⟩ := closure_ok (scope := scope) (env := X.env) fun y hy hf => I.ok.has y.1 (co.frees y hy hf)
  rw [exec_Assign_Name_used _ _ _ _ hsw]
  refine wpAny_bind (wpAny_standAt (wpAny_bind ?_))
  show wpAny _ X.A (do let _ ← comprehension (.ListComp elt [⟨tg, iter, ifs, 0⟩] scope pe) scope X.env _ (newList []) false (eval iter X.env) (some (assign (.Name x px) X.env))) _ _ s
  refine wpAny_bind (wpAny_mono (wpAny_comprehension_free (use := some (assign (.Name x px) X.env)) (Q := fun _ s' => SP X pins D .next s') rfl hs ecl co.kind co.names
    (wpAny_mono (hi pins s σ H _ I h) (fun v s1 h1 => wpAny_mono h1 (fun itv s2 h2 => ?_) fun _ _ e => e) fun _ _ e => e)) (fun _ s' hq => wpAny_pure (wpAny_pure hq)) fun _ _ e => e)
  obtain ⟨it, fp, tn, J, H2, rfl, I2, T, st2, f2, h2⟩ := h2
  refine comp_core (K := fun p H' => gName i (.ref p) σ H' D.nx) (RR := fun acc C => compPost (model X.prog X.w) X.A X.xe (some (assign (.Name x px) X.env)) (fun _ s' => SP X pins D .next s') acc C) hc co c1 c2 hg hcs he I2 T st2 f2 h2 ?_
  intro Da C s' H' hle ⟨m, hm⟩ hI hC q
  have I' : Inv X pins σ H' s' := hI s'.heap (Heap.SameBut.refl ..)
  obtain ⟨o, es, ep, ho, hd, hk⟩ := id hm
  have hCL : C ≠ X.env.locals := Nat.ne_of_gt (Nat.lt_of_lt_of_le I2.lt hle)
  have hCf : C ∉ X.fs := I2.nofs hle
  have I'' : Inv X (pins ++ [(C, o)]) σ H' s' := I'.pins_of fun p hp => (List.mem_append.mp hp).elim (fun z => I'.pin p (List.mem_append_right _ z)) fun z => by
    obtain rfl : p = (C, o) := by simpa using z
    exact ⟨ho, hC, hCL, hCf, fun v z => by rw [hd] at z; cases z⟩
  show wpAny (model X.prog X.w) X.A (assign (.Name x px) X.env (.ref Da)) _ _ _
  refine wpAny_assign_Name (store_ok I'' hN hx0 (.inl hx) (v := .ref Da) rfl (fun s'' J => ?_) (.inr hx))
  have hC2 : s''.heap.get? C = some o := (J.pin (C, o) (List.mem_append_right _ (List.mem_append_right _ List.mem_cons_self))).1
  refine ⟨m, ⟨o, es, ep, hC2, hd, hk⟩, fun h' hs' => ?_⟩
  have J2 : Inv X pins (σ.set i (some (.ref Da))) H' { s'' with heap := h' } := J.unpinned.turned (t' := s''.toks) (it := C) (fun b ob hb e => (hs'.2 b hb).trans e) hC hCL
    (.inr (Nat.le_trans I2.sz hle)) (fun y c e z => by
      obtain ⟨v, q2⟩ := I2.cell y c e
      exact absurd (Nat.lt_of_lt_of_le q2.lt (by rw [z]; exact hle)) (Nat.lt_irrefl _)) fun p hp z => by
      exact absurd (Nat.lt_of_lt_of_le (Heap.lt_size (I2.pin p hp).1) (by rw [z]; exact hle)) (Nat.lt_irrefl _)
  exact ⟨_, H', J2, q⟩
end
end L2
set_option maxRecDepth 100000
set_option maxHeartbeats 4000000
namespace DL
open PySem PySem.Spec PyProof.Rows L2
inductive D where
  | non
  | bl (b : Bool)
  | int (i : Int)
  | str (x : Str)
  | tup (ds : List D)
  | lst (ds : List D)
  | dct (ks : List Key) (vs : List D)
  | dtt (ks : List (List Int)) (vs : List D)
  | obj (x : Str)
abbrev Frag := PySem.W.Frag
abbrev St := L2.St
def ClsN (K : Frag) (C : Addr) : Prop := PySem.W.plainGet K C "__class__" = true ∧ PySem.W.hasDictIn K C = true ∧ PySem.W.findIn K (.ref C) "__class__" = some (some (.builtin "object.__class__")) ∧
  PySem.W.specialIn K (.builtin "object.__class__") "__get__" = some (some (.builtin "getset_descriptor.__get__")) ∧ PySem.W.takesIn K (.builtin "object.__class__") = some true ∧ PySem.W.mroIn K C (.type "object") = some true ∧
  ∀ T : String, T ∈ ["int", "bool", "tuple", "list", "str", "dict"] → PySem.W.kitOne K (.ref C) (.type T) = some false
def entI (x : List Int × Addr × Value) : DictEntry := ⟨reduceHash (Builtin.Tuple.tupleHashOf (x.1.map hashInt)), .ref x.2.1, x.2.2⟩
def DE (a : Addr) (xs : List (List Int × Addr × Value)) (h : Heap) : Prop := ∃ o es ep, h.get? a = some o ∧ o.ExactDict ∧ o.data = .dict es ep ∧ es.toList = xs.map entI
mutual
/-- v stands for the datum in the heap H -/
def Rep (K : Frag) (H : Hp) : D → V → Prop
  | .non, v => v = .non
  | .bl b, v => v = .bl b
  | .int i, v => v = .int i
  | .str x, v => v = .str x
  | .tup ds, v => ∃ a xs, v = .ref a ∧ SqT K H a xs ∧ RepL K H ds xs
  | .lst ds, v => ∃ a xs, v = .ref a ∧ SqL K H a xs ∧ RepL K H ds xs
  | .dct ks vs, v => ∃ a xs, v = .ref a ∧ H a = some (.dK (ks.zip xs)) ∧ ks.length = xs.length ∧ RepL K H vs xs
  | .dtt ks vs, v => ∃ a xs ys, v = .ref a ∧ H a = some (.ext (DE a xs)) ∧ xs.map (·.1) = ks ∧ ks.Nodup ∧ xs.length ≤ sizeLine ∧ (a == sysModules) = false ∧ (∀ x ∈ xs, SqT K H x.2.1 (x.1.map V.int)) ∧ Vals ys (xs.map fun x => x.2.2) ∧ RepL K H vs ys
  | .obj x, v => ∃ a dx C, v = .ref a ∧ H a = some (.ins C dx []) ∧ PySem.W.nsIn K mainGlobals x = some (some (.ref C)) ∧ ClsN K C
def RepL (K : Frag) (H : Hp) : List D → List V → Prop
  | [], xs => xs = []
  | d :: ds, xs => ∃ x r, xs = x :: r ∧ Rep K H d x ∧ RepL K H ds r
end
theorem same_seqT {K : Frag} {H H' : Hp} {a : Addr} {xs : List V} (e : Same H H') (h : SqT K H a xs) : SqT K H' a xs := by
  rcases h with (h | ⟨o, h⟩) | h
  · exact .inl (.inl (e _ _ h))
  · exact .inl (.inr ⟨o, e _ _ h⟩)
  · exact .inr h
mutual
theorem Rep.mono {K : Frag} {H H' : Hp} (e : Same H H') : ∀ {d : D} {v : V}, Rep K H d v → Rep K H' d v
  | .non, v, h => by simpa only [Rep] using h
  | .bl b, v, h => by simpa only [Rep] using h
  | .int i, v, h => by simpa only [Rep] using h
  | .str x, v, h => by simpa only [Rep] using h
  | .tup ds, v, h => by
    simp only [Rep] at h ⊢
    obtain ⟨a, xs, e1, e2, e3⟩ := h
    exact ⟨a, xs, e1, same_seqT e e2, RepL.mono e e3⟩
  | .lst ds, v, h => by
    simp only [Rep] at h ⊢
    obtain ⟨a, xs, e1, e2, e3⟩ := h
    exact ⟨a, xs, e1, e.seq e2, RepL.mono e e3⟩
  | .dct ks vs, v, h => by
    simp only [Rep] at h ⊢
    obtain ⟨a, xs, e1, e2, e3, e4⟩ := h
    exact ⟨a, xs, e1, e _ _ e2, e3, RepL.mono e e4⟩
  | .dtt ks vs, v, h => by
    simp only [Rep] at h ⊢
    obtain ⟨a, xs, ys, e1, e2, e3, e4, e5, e6, e7, e8, e9⟩ := h
    exact ⟨a, xs, ys, e1, e _ _ e2, e3, e4, e5, e6, fun x hx => same_seqT e (e7 x hx), e8, RepL.mono e e9⟩
  | .obj x, v, h => by
    simp only [Rep] at h ⊢
    obtain ⟨a, dx, C, e1, e2, e3⟩ := h
    exact ⟨a, dx, C, e1, e _ _ e2, e3⟩
theorem RepL.mono {K : Frag} {H H' : Hp} (e : Same H H') : ∀ {ds : List D} {xs : List V}, RepL K H ds xs → RepL K H' ds xs
  | [], xs, h => by simpa only [RepL] using h
  | d :: ds, xs, h => by
    simp only [RepL] at h ⊢
    obtain ⟨x, r, e1, e2, e3⟩ := h
    exact ⟨x, r, e1, Rep.mono e e2, RepL.mono e e3⟩
end
section
variable {K : Frag} {H : Hp}
theorem RepL.nil : RepL K H [] [] := by simp only [RepL]
theorem RepL.cons {d : D} {ds : List D} {x : V} {xs : List V} (h : Rep K H d x) (t : RepL K H ds xs) : RepL K H (d :: ds) (x :: xs) := by
  simp only [RepL]; exact ⟨x, xs, rfl, h, t⟩
theorem RepL.nil_inv {xs : List V} (h : RepL K H [] xs) : xs = [] := by simpa only [RepL] using h
theorem RepL.cons_inv {d : D} {ds : List D} {xs : List V} (h : RepL K H (d :: ds) xs) : ∃ x r, xs = x :: r ∧ Rep K H d x ∧ RepL K H ds r := by simpa only [RepL] using h
theorem RepL.length : ∀ {ds : List D} {xs : List V}, RepL K H ds xs → ds.length = xs.length
  | [], xs, h => by rw [h.nil_inv]; rfl
  | d :: ds, xs, h => by
    obtain ⟨x, r, rfl, _, t⟩ := h.cons_inv
    simp [RepL.length t]
theorem RepL.append : ∀ {ds es : List D} {xs ys : List V}, RepL K H ds xs → RepL K H es ys → RepL K H (ds ++ es) (xs ++ ys)
  | [], es, xs, ys, h, t => by rw [h.nil_inv]; exact t
  | d :: ds, es, xs, ys, h, t => by
    obtain ⟨x, r, rfl, h1, h2⟩ := h.cons_inv
    exact .cons h1 (RepL.append h2 t)
theorem RepL.get : ∀ {ds : List D} {xs : List V} {i : Nat} {d : D}, RepL K H ds xs → ds[i]? = some d → ∃ x, xs[i]? = some x ∧ Rep K H d x
  | [], xs, i, d, h, e => by simp at e
  | d :: ds, xs, 0, d', h, e => by
    obtain ⟨x, r, rfl, h1, h2⟩ := h.cons_inv
    simp at e; subst e
    exact ⟨x, rfl, h1⟩
  | d :: ds, xs, i + 1, d', h, e => by
    obtain ⟨x, r, rfl, h1, h2⟩ := h.cons_inv
    obtain ⟨y, e1, e2⟩ := RepL.get (i := i) h2 (by simpa using e)
    exact ⟨y, by simpa using e1, e2⟩
theorem RepL.take : ∀ {ds : List D} {xs : List V} (n : Nat), RepL K H ds xs → RepL K H (ds.take n) (xs.take n)
  | _, _, 0, _ => by simp only [List.take_zero]; exact .nil
  | [], xs, n + 1, h => by rw [h.nil_inv]; exact .nil
  | d :: ds, xs, n + 1, h => by
    obtain ⟨x, r, rfl, h1, h2⟩ := h.cons_inv
    exact .cons h1 (RepL.take n h2)
theorem RepL.drop : ∀ {ds : List D} {xs : List V} (n : Nat), RepL K H ds xs → RepL K H (ds.drop n) (xs.drop n)
  | ds, xs, 0, h => by simpa only [List.drop_zero] using h
  | [], xs, n + 1, h => by rw [h.nil_inv]; exact .nil
  | d :: ds, xs, n + 1, h => by
    obtain ⟨x, r, rfl, h1, h2⟩ := h.cons_inv
    exact RepL.drop n h2
theorem RepL.ints : ∀ {ns : List Int} {xs : List V}, RepL K H (ns.map D.int) xs ↔ xs = ns.map V.int
  | [], xs => by simp only [List.map_nil, RepL]
  | n :: ns, xs => by
    simp only [List.map_cons, RepL]
    constructor
    · rintro ⟨x, r, rfl, h1, h2⟩
      simp only [Rep] at h1
      rw [h1, RepL.ints.mp h2]
    · rintro rfl
      exact ⟨_, _, rfl, by simp only [Rep], RepL.ints.mpr rfl⟩
theorem rep_int {i : Int} {v : V} : Rep K H (.int i) v ↔ v = .int i := by simp only [Rep]
theorem rep_bl {i : Bool} {v : V} : Rep K H (.bl i) v ↔ v = .bl i := by simp only [Rep]
theorem rep_str {i : Str} {v : V} : Rep K H (.str i) v ↔ v = .str i := by simp only [Rep]
theorem rep_non {v : V} : Rep K H .non v ↔ v = .non := by simp only [Rep]
theorem rep_tup {ds : List D} {v : V} : Rep K H (.tup ds) v ↔ ∃ a xs, v = .ref a ∧ SqT K H a xs ∧ RepL K H ds xs := by simp only [Rep]
theorem rep_lst {ds : List D} {v : V} : Rep K H (.lst ds) v ↔ ∃ a xs, v = .ref a ∧ SqL K H a xs ∧ RepL K H ds xs := by simp only [Rep]
theorem rep_dct {ks : List Key} {vs : List D} {v : V} : Rep K H (.dct ks vs) v ↔ ∃ a xs, v = .ref a ∧ H a = some (.dK (ks.zip xs)) ∧ ks.length = xs.length ∧ RepL K H vs xs := by simp only [Rep]
theorem rep_dtt {ks : List (List Int)} {vs : List D} {v : V} : Rep K H (.dtt ks vs) v ↔ ∃ a xs ys, v = .ref a ∧ H a = some (.ext (DE a xs)) ∧ xs.map (·.1) = ks ∧ ks.Nodup ∧ xs.length ≤ sizeLine ∧ (a == sysModules) = false ∧ (∀ x ∈ xs, SqT K H x.2.1 (x.1.map V.int)) ∧ Vals ys (xs.map fun x => x.2.2) ∧ RepL K H vs ys := by simp only [Rep]
theorem rep_obj {x : Str} {v : V} : Rep K H (.obj x) v ↔ ∃ a dx C, v = .ref a ∧ H a = some (.ins C dx []) ∧ PySem.W.nsIn K mainGlobals x = some (some (.ref C)) ∧ ClsN K C := by simp only [Rep]
end
class Lam where
  tab : List (Addr × Str)
variable [Lam]
def Tab (H : Hp) : Prop := ∀ p ∈ Lam.tab, ∃ ps, H p.1 = some (.tbl ps) ∧ TriplesOk ps.toList ∧ ∀ pos cv, codeAmong pos ps.toList = some cv → ∃ c φ, cv = .ref c ∧ H c = some (.ext φ) ∧ ∀ h, φ h → h.CodeRec (.ref c) p.2
def TabF (F : Hp) : Prop := ∀ p ∈ Lam.tab, F p.1 = none
theorem Tab.upd {H : Hp} (t : Tab H) {p : Addr} {o : HO} (h : H p = none ∨ ∃ xs, H p = some (.lst xs)) : Tab (upd H p o) := fun q hq => by
  have ne : ∀ c u, H c = some u → (∀ xs, u ≠ .lst xs) → c ≠ p := fun c u e n z => by
    subst z
    rcases h with h | ⟨xs, h⟩
    · rw [h] at e; cases e
    · rw [h] at e; exact n xs (Option.some.inj e).symm
  obtain ⟨ps, e, ht, k⟩ := t q hq
  refine ⟨ps, by rw [upd_ne (ne _ _ e nofun)]; exact e, ht, fun pos cv z => ?_⟩
  obtain ⟨c, φ, e1, e2, e3⟩ := k pos cv z
  exact ⟨c, φ, e1, by rw [upd_ne (ne _ _ e2 nofun)]; exact e2, e3⟩
structure Kept (H H' : Hp) : Prop where
  lst : ∀ b xs, H b = some (.lst xs) → H' b = some (.lst xs)
  ext : ∀ b φ, H b = some (.ext φ) → H' b = some (.ext φ)
  free : ∀ {b}, H' b = none → H b = none
  tb : Tab H → Tab H'
theorem Kept.refl (H : Hp) : Kept H H := ⟨fun _ _ e => e, fun _ _ e => e, fun e => e, fun t => t⟩
theorem Kept.trans {H H1 H2 : Hp} (a : Kept H H1) (b : Kept H1 H2) : Kept H H2 := ⟨fun c xs e => b.lst c xs (a.lst c xs e), fun c φ e => b.ext c φ (a.ext c φ e), fun e => a.free (b.free e), fun t => b.tb (a.tb t)⟩
theorem Kept.new {H : Hp} {p : Addr} {o : HO} (hp : H p = none) : Kept H (upd H p o) := ⟨fun b xs e => by rw [upd_ne (ne_of_none e hp)]; exact e, fun b φ e => by rw [upd_ne (ne_of_none e hp)]; exact e, fun {b} e => by
  by_cases z : b = p
  · subst z; exact hp
  · rw [upd_ne z] at e; exact e, fun t => t.upd (.inl hp)⟩
structure SameT (F H : Hp) : Prop where
  s : Same F H
  t : Tab H
  f : TabF F
structure Grow (F H F' H' : Hp) : Prop where
  ff : Same F F'
  hh : Kept H H'
  fh : Same F' H'
  nw : ∀ b, F' b ≠ none → F b ≠ none ∨ H b = none
theorem Grow.refl {F H : Hp} (h : Same F H) : Grow F H F H := ⟨.refl _, .refl _, h, fun _ h => .inl h⟩
theorem Grow.trans {F H F1 H1 F2 H2 : Hp} (a : Grow F H F1 H1) (b : Grow F1 H1 F2 H2) : Grow F H F2 H2 :=
  ⟨a.ff.trans b.ff, a.hh.trans b.hh, b.fh, fun c h => (b.nw c h).elim (fun z => a.nw c z) fun z => .inr (a.hh.free z)⟩
theorem same_upd {H : Hp} {p : Addr} {o : HO} (h : H p = none) : Same H (upd H p o) := fun b u q => by rw [upd_ne (ne_of_none q h)]; exact q
theorem same_upd2 {F H : Hp} {p : Addr} {o : HO} (h : Same F H) : Same (upd F p o) (upd H p o) := fun b u q => by
  unfold upd at q ⊢
  split
  · rename_i z; rw [if_pos z] at q; exact q
  · rename_i z; rw [if_neg z] at q; exact h _ _ q
theorem Grow.new {F H : Hp} {p : Addr} {o : HO} (h : Same F H) (hp : H p = none) : Grow F H (upd F p o) (upd H p o) :=
  ⟨same_upd (h.free hp), .new hp, same_upd2 h, fun b hb => by
    by_cases e : b = p
    · subst e; exact .inr hp
    · rw [upd_ne e] at hb; exact .inl hb⟩
theorem Grow.own {F H : Hp} {p : Addr} {o : HO} (h : Same F H) (hp : H p = none) : Grow F H F (upd H p o) :=
  ⟨.refl _, .new hp, h.trans (same_upd hp), fun _ h => .inl h⟩
inductive B where
  | fz (d : D)
  | ow (ds : List D)
abbrev Rho := List (Option B)
structure RS (K : Frag) (F0 H0 F H : Hp) (σ : St) (ρ : Rho) : Prop where
  t0 : Tab H0 ∧ TabF F0
  g : Grow F0 H0 F H
  len : σ.length = ρ.length
  fz : ∀ (i : Nat) (d : D), ρ[i]? = some (some (.fz d)) → ∃ v, σ[i]? = some (some v) ∧ Rep K F d v
  ow : ∀ (i : Nat) (ds : List D), ρ[i]? = some (some (.ow ds)) → ∃ a xs, σ[i]? = some (some (.ref a)) ∧ H a = some (.lst xs) ∧ F a = none ∧ H0 a = none ∧ RepL K F ds xs
  dj : ∀ (i j : Nat) (ds es : List D) (a : Addr), i ≠ j → ρ[i]? = some (some (.ow ds)) → ρ[j]? = some (some (.ow es)) → σ[i]? = some (some (.ref a)) → σ[j]? ≠ some (some (.ref a))
section
variable {K : Frag} {F0 H0 F H F' H' : Hp} {σ : St} {ρ : Rho}
theorem RS.fh (r : RS K F0 H0 F H σ ρ) : Same F H := r.g.fh
theorem RS.tab (r : RS K F0 H0 F H σ ρ) : Tab H := r.g.hh.tb r.t0.1
theorem RS.tabF (r : RS K F0 H0 F H σ ρ) : TabF F := fun p hp => by
  cases q : F p.1 with
  | none => rfl
  | some o =>
    rcases r.g.nw p.1 (by rw [q]; simp) with z | z
    · exact absurd (r.t0.2 p hp) z
    · obtain ⟨ps, e, _⟩ := r.t0.1 p hp
      rw [e] at z; cases z
theorem RS.grow (r : RS K F0 H0 F H σ ρ) (g : Grow F H F' H') : RS K F0 H0 F' H' σ ρ where
  t0 := r.t0
  g := r.g.trans g
  len := r.len
  fz := fun i d e => let ⟨v, e1, e2⟩ := r.fz i d e; ⟨v, e1, e2.mono g.ff⟩
  ow := fun i ds e => by
    obtain ⟨a, xs, e1, e2, e3, e4, e5⟩ := r.ow i ds e
    refine ⟨a, xs, e1, g.hh.lst _ _ e2, ?_, e4, e5.mono g.ff⟩
    cases q : F' a with
    | none => rfl
    | some o =>
      rcases g.nw a (by rw [q]; simp) with z | z
      · exact absurd e3 z
      · rw [e2] at z; cases z
  dj := r.dj
theorem RS.sameT (r : RS K F0 H0 F H σ ρ) (g : Grow F H F' H') : SameT F' H' := ⟨g.fh, (r.grow g).tab, (r.grow g).tabF⟩
theorem get_set_eq {α : Type} {l : List α} {i : Nat} {x y : α} (h : (l.set i x)[i]? = some y) : y = x ∧ i < l.length := by
  rw [List.getElem?_set] at h
  simp only [if_true] at h
  split at h
  · exact ⟨(Option.some.inj h).symm, by assumption⟩
  · cases h
theorem RS.set (r : RS K F0 H0 F H σ ρ) {d : D} {v : V} (i : Nat) (h : Rep K F d v) : RS K F0 H0 F H (σ.set i (some v)) (ρ.set i (some (.fz d))) where
  t0 := r.t0
  g := r.g
  len := by rw [List.length_set, List.length_set]; exact r.len
  fz := fun j e h1 => by
    by_cases q : j = i
    · subst q
      obtain ⟨z, l⟩ := get_set_eq h1
      cases z
      exact ⟨v, by rw [List.getElem?_set]; simp [r.len, l], h⟩
    · rw [List.getElem?_set_ne (Ne.symm q)] at h1 ⊢
      exact r.fz j e h1
  ow := fun j ds h1 => by
    by_cases q : j = i
    · subst q
      obtain ⟨z, l⟩ := get_set_eq h1
      cases z
    · rw [List.getElem?_set_ne (Ne.symm q)] at h1 ⊢
      exact r.ow j ds h1
  dj := fun j k ds es a hjk h1 h2 h3 => by
    by_cases q : j = i
    · subst q
      obtain ⟨z, l⟩ := get_set_eq h1
      cases z
    · by_cases q2 : k = i
      · subst q2
        obtain ⟨z, l⟩ := get_set_eq h2
        cases z
      · rw [List.getElem?_set_ne (Ne.symm q)] at h1 h3
        rw [List.getElem?_set_ne (Ne.symm q2)] at h2 ⊢
        exact r.dj j k ds es a hjk h1 h2 h3
theorem RS.setO (r : RS K F0 H0 F H σ ρ) {ds : List D} {xs : List V} {a : Addr} (i : Nat) (h1 : H a = some (.lst xs)) (h2 : F a = none) (h3 : H0 a = none) (h4 : RepL K F ds xs)
    (h5 : ∀ (j : Nat) (es : List D), ρ[j]? = some (some (.ow es)) → σ[j]? ≠ some (some (.ref a))) : RS K F0 H0 F H (σ.set i (some (.ref a))) (ρ.set i (some (.ow ds))) where
  t0 := r.t0
  g := r.g
  len := by rw [List.length_set, List.length_set]; exact r.len
  fz := fun j e q1 => by
    by_cases q : j = i
    · subst q
      obtain ⟨z, l⟩ := get_set_eq q1
      cases z
    · rw [List.getElem?_set_ne (Ne.symm q)] at q1 ⊢
      exact r.fz j e q1
  ow := fun j es q1 => by
    by_cases q : j = i
    · subst q
      obtain ⟨z, l⟩ := get_set_eq q1
      cases z
      exact ⟨a, xs, by rw [List.getElem?_set]; simp [r.len, l], h1, h2, h3, h4⟩
    · rw [List.getElem?_set_ne (Ne.symm q)] at q1 ⊢
      exact r.ow j es q1
  dj := fun j k ds' es b hjk q1 q2 q3 => by
    by_cases q : j = i
    · subst q
      have e3 := get_set_eq q3
      have eb : b = a := by have := e3.1; simpa using this
      subst eb
      rw [List.getElem?_set_ne hjk] at q2 ⊢
      exact h5 k es q2
    · rw [List.getElem?_set_ne (Ne.symm q)] at q1 q3
      by_cases q4 : k = i
      · subst q4
        intro z
        have eb : b = a := by have := (get_set_eq z).1; simpa using this
        subst eb
        exact h5 j ds' q1 q3
      · rw [List.getElem?_set_ne (Ne.symm q4)] at q2 ⊢
        exact r.dj j k ds' es b hjk q1 q2 q3
theorem RS.wrt (r : RS K F0 H0 F H σ ρ) {ds es : List D} {ys : List V} {a : Addr} {i : Nat} (h1 : ρ[i]? = some (some (.ow ds))) (h2 : σ[i]? = some (some (.ref a))) (h4 : RepL K F es ys) :
    RS K F0 H0 F (upd H a (.lst ys)) σ (ρ.set i (some (.ow es))) := by
  obtain ⟨a', xs, e1, e2, e3, e4, e5⟩ := r.ow i ds h1
  rw [h2] at e1
  obtain rfl : a = a' := by simpa using e1
  have nF : ∀ b o, F b = some o → b ≠ a := fun b o e z => by subst z; rw [e3] at e; cases e
  exact {
    t0 := r.t0
    g := ⟨r.g.ff, ⟨fun b o e => by rw [upd_ne (fun z => by subst z; rw [e4] at e; cases e)]; exact r.g.hh.lst b o e, fun b o e => by rw [upd_ne (fun z => by subst z; rw [e4] at e; cases e)]; exact r.g.hh.ext b o e, fun {b} e => by
        by_cases z : b = a
        · subst z; exact e4
        · rw [upd_ne z] at e; exact r.g.hh.free e, fun t => (r.g.hh.tb t).upd (.inr ⟨_, e2⟩)⟩, fun b o e => by rw [upd_ne (nF b o e)]; exact r.g.fh b o e, r.g.nw⟩
    len := by rw [List.length_set]; exact r.len
    fz := fun j e q1 => by
      by_cases q : j = i
      · subst q
        obtain ⟨z, l⟩ := get_set_eq q1
        cases z
      · rw [List.getElem?_set_ne (Ne.symm q)] at q1
        exact r.fz j e q1
    ow := fun j es' q1 => by
      by_cases q : j = i
      · subst q
        obtain ⟨z, l⟩ := get_set_eq q1
        cases z
        exact ⟨a, ys, h2, upd_same, e3, e4, h4⟩
      · rw [List.getElem?_set_ne (Ne.symm q)] at q1
        obtain ⟨b, zs, f1, f2, f3, f4, f5⟩ := r.ow j es' q1
        have hb : b ≠ a := fun z => by
          subst z
          exact r.dj i j ds es' b (Ne.symm q) h1 q1 h2 f1
        exact ⟨b, zs, f1, by rw [upd_ne hb]; exact f2, f3, f4, f5⟩
    dj := fun j k ds' es' b hjk q1 q2 q3 => by
      have back : ∀ (l : Nat) (us : List D), (ρ.set i (some (.ow es)))[l]? = some (some (.ow us)) → ∃ ws, ρ[l]? = some (some (.ow ws)) := fun l us z => by
        by_cases q : l = i
        · subst q; exact ⟨ds, h1⟩
        · rw [List.getElem?_set_ne (Ne.symm q)] at z; exact ⟨us, z⟩
      obtain ⟨w1, z1⟩ := back j ds' q1
      obtain ⟨w2, z2⟩ := back k es' q2
      exact r.dj j k w1 w2 b hjk z1 z2 q3 }
theorem RS.freeze (r : RS K F0 H0 F H σ ρ) {ds : List D} {i : Nat} (h1 : ρ[i]? = some (some (.ow ds))) : ∃ F', Same F F' ∧ RS K F0 H0 F' H σ (ρ.set i (some (.fz (.lst ds)))) := by
  obtain ⟨a, xs, e1, e2, e3, e4, e5⟩ := r.ow i ds h1
  have sF : Same F (upd F a (.lst xs)) := same_upd e3
  refine ⟨upd F a (.lst xs), sF, ?_⟩
  exact {
    t0 := r.t0
    g := ⟨r.g.ff.trans sF, r.g.hh, fun b o e => by
        by_cases q : b = a
        · subst q; rw [upd_same] at e; cases e; exact e2
        · rw [upd_ne q] at e; exact r.g.fh b o e, fun b hb => by
        by_cases q : b = a
        · subst q; exact .inr e4
        · rw [upd_ne q] at hb; exact r.g.nw b hb⟩
    len := by rw [List.length_set]; exact r.len
    fz := fun j e q1 => by
      by_cases q : j = i
      · subst q
        obtain ⟨z, l⟩ := get_set_eq q1
        cases z
        exact ⟨_, e1, rep_lst.mpr ⟨a, xs, rfl, SqL.of upd_same, e5.mono sF⟩⟩
      · rw [List.getElem?_set_ne (Ne.symm q)] at q1
        obtain ⟨v, z1, z2⟩ := r.fz j e q1
        exact ⟨v, z1, z2.mono sF⟩
    ow := fun j es' q1 => by
      by_cases q : j = i
      · subst q
        obtain ⟨z, l⟩ := get_set_eq q1
        cases z
      · rw [List.getElem?_set_ne (Ne.symm q)] at q1
        obtain ⟨b, zs, f1, f2, f3, f4, f5⟩ := r.ow j es' q1
        have hb : b ≠ a := fun z => by
          subst z
          exact r.dj i j ds es' b (Ne.symm q) h1 q1 e1 f1
        exact ⟨b, zs, f1, f2, by rw [upd_ne hb]; exact f3, f4, f5.mono sF⟩
    dj := fun j k ds' es' b hjk q1 q2 q3 => by
      have back : ∀ (l : Nat) (us : List D), (ρ.set i (some (.fz (.lst ds))))[l]? = some (some (.ow us)) → ρ[l]? = some (some (.ow us)) := fun l us z => by
        by_cases q : l = i
        · subst q
          obtain ⟨z', _⟩ := get_set_eq z
          cases z'
        · rw [List.getElem?_set_ne (Ne.symm q)] at z; exact z
      exact r.dj j k ds' es' b hjk (back _ _ q1) (back _ _ q2) q3 }
end
end DL
set_option maxRecDepth 100000
set_option maxHeartbeats 4000000
namespace DL
open PySem PySem.Spec PyProof.Rows L2
variable [Lam]
abbrev lim : Nat := 1000000
theorem lim_size {n : Nat} (h : n ≤ lim) : n ≤ sizeLine := Nat.le_trans h (by decide)
theorem lim_size' {n : Nat} (h : n < lim) : n < sizeLine := Nat.lt_of_lt_of_le h (by decide)
abbrev FE := Rho → Option D
abbrev FT := Rho → Option Bool
abbrev FA := Rho → Option (List D)
inductive Fl where
  | nx | bk | ct
  | rt (d : D)
abbrev FS := Rho → Option (Fl × Rho)
def tD (K : Frag) (f : FE) : TE := fun σ H Q => ∃ F0 H0 F ρ d, RS K F0 H0 F H σ ρ ∧ f ρ = some d ∧ ∀ v F' H', Grow F H F' H' → Rep K F' d v → Q v H'
def tL (K : Frag) (f : FA) : TE := fun σ H Q => ∃ F0 H0 F ρ ds, RS K F0 H0 F H σ ρ ∧ f ρ = some ds ∧ ∀ a xs F' H', Grow F H F' H' → F' a = none → H a = none → H' a = some (.lst xs) → RepL K F' ds xs → Q (.ref a) H'
def tDT (K : Frag) (f : FT) : TT := fun σ H Q => ∃ F0 H0 F ρ b, RS K F0 H0 F H σ ρ ∧ f ρ = some b ∧ ∀ F' H', Grow F H F' H' → Q b H'
def tDA (K : Frag) (f : FA) : TA := fun σ H Q => ∃ F0 H0 F ρ ds, RS K F0 H0 F H σ ρ ∧ f ρ = some ds ∧ ∀ vs F' H', Grow F H F' H' → RepL K F' ds vs → Q vs H'
def outOk (K : Frag) (F0 H0 F : Hp) (D : Ends) (fl : Fl) (ρ' : Rho) : Prop := match fl with
  | .nx => ∀ σ' F' H', Same F F' → RS K F0 H0 F' H' σ' ρ' → D.nx σ' H'
  | .bk => ∀ σ' F' H', Same F F' → RS K F0 H0 F' H' σ' ρ' → D.bk σ' H'
  | .ct => ∀ σ' F' H', Same F F' → RS K F0 H0 F' H' σ' ρ' → D.ct σ' H'
  | .rt d => ∀ v F' H', Grow F0 H0 F' H' → Rep K F' d v → D.rt v H'
def tDS (K : Frag) (f : FS) : TS := fun D σ H => ∃ F0 H0 F ρ fl ρ', RS K F0 H0 F H σ ρ ∧ f ρ = some (fl, ρ') ∧ outOk K F0 H0 F D fl ρ'
section
variable {X : Cx} {e : Expr} {pos : Pos}
theorem pe_imp {t t' : TE} (h : PE X e t) (i : ∀ σ H Q, t' σ H Q → t σ H Q) : PE X e t' := fun pins s σ H Q I q => h pins s σ H Q I (i σ H Q q)
theorem pt_imp {t t' : TT} (h : PT X e t) (i : ∀ σ H Q, t' σ H Q → t σ H Q) : PT X e t' := fun pins s σ H Q I q => h pins s σ H Q I (i σ H Q q)
theorem pa_imp {es : List Expr} {t t' : TA} (h : PA X es t) (i : ∀ σ H Q, t' σ H Q → t σ H Q) : PA X es t' := fun pos pins s σ H Q I q => h pos pins s σ H Q I (i σ H Q q)
theorem ps_imp {st : Stmt} {t t' : TS} (h : PS X st t) (i : ∀ D σ H, t' D σ H → t D σ H) : PS X st t' := fun pins s σ H D I q => h pins s σ H D I (i D σ H q)
theorem pss_imp {st : List Stmt} {t t' : TS} (h : PSs X st t) (i : ∀ D σ H, t' D σ H → t D σ H) : PSs X st t' := fun pins s σ H D I q => h pins s σ H D I (i D σ H q)
def eV (i : Nat) : FE := fun ρ => match ρ[i]? with
  | some (some (.fz d)) => some d
  | _ => none
def eC (d : D) : FE := fun _ => some d
theorem eV_some {i : Nat} {ρ : Rho} {d : D} (h : eV i ρ = some d) : ρ[i]? = some (some (.fz d)) := by
  unfold eV at h
  split at h
  · rename_i e; rw [e, Option.some.inj h]
  · cases h
theorem pd_var {K : Frag} {i : Nat} (h : PE X e (tVar i)) : PE X e (tD K (eV i)) := pe_imp h fun σ H Q ⟨F0, H0, F, ρ, d, r, hf, q⟩ => by
  obtain ⟨v, e1, e2⟩ := r.fz i d (eV_some hf)
  exact ⟨v, e1, q v F H (.refl r.fh) e2⟩
theorem pd_const {K : Frag} {v : V} {d : D} (h : PE X e (tC v)) (hd : ∀ H, Rep K H d v) : PE X e (tD K (eC d)) := pe_imp h fun σ H Q ⟨F0, H0, F, ρ, d', r, hf, q⟩ => by
  cases hf
  exact q v F H (.refl r.fh) (hd F)
theorem pd_int {K : Frag} {i j} : PE X (.Constant (.int i) j pos) (tD K (eC (.int i))) := pd_const pe_int fun _ => rep_int.mpr rfl
theorem pd_bl {K : Frag} {b j} : PE X (.Constant (.bool b) j pos) (tD K (eC (.bl b))) := pd_const pe_bl fun _ => rep_bl.mpr rfl
def rD (K : Frag) (op : D → D → Option D) : R2 := fun x y H Q => ∃ F d1 d2 d, Same F H ∧ Rep K F d1 x ∧ Rep K F d2 y ∧ op d1 d2 = some d ∧ ∀ v F' H', Grow F H F' H' → Rep K F' d v → Q v H'
def eOp (op : D → D → Option D) (f g : FE) : FE := fun ρ => (f ρ).bind fun x => (g ρ).bind fun y => op x y
theorem two {K : Frag} {f g : FE} {op : D → D → Option D} {σ : St} {H : Hp} {Q : VK} (h : tD K (eOp op f g) σ H Q) : tD K f σ H fun x H1 => tD K g σ H1 fun y H2 => rD K op x y H2 Q := by
  obtain ⟨F0, H0, F, ρ, d, r, hf, q⟩ := h
  obtain ⟨d1, h1, hf⟩ := Option.bind_eq_some_iff.mp hf
  obtain ⟨d2, h2, h3⟩ := Option.bind_eq_some_iff.mp hf
  refine ⟨F0, H0, F, ρ, d1, r, h1, fun v F1 H1 g1 r1 => ⟨F0, H0, F1, ρ, d2, r.grow g1, h2, fun u F2 H2 g2 r2 => ?_⟩⟩
  exact ⟨F2, d1, d2, d, g2.fh, r1.mono g2.ff, r2, h3, fun w F3 H3 g3 r3 => q w F3 H3 (g1.trans (g2.trans g3)) r3⟩
variable {a b : Expr} {f g : FE}
theorem pd_op {op : Operator} {o : D → D → Option D} (ho : OpR X (binaryOp op) (rD X.K o)) (ha : PE X a (tD X.K f)) (hb : PE X b (tD X.K g)) : PE X (.BinOp a op b pos) (tD X.K (eOp o f g)) :=
  pe_imp (pe_op ho ha hb) fun σ H Q h => two h
theorem opR_imp {f : Value → Value → Sem Value} {r r' : R2} (h : OpR X f r) (i : ∀ x y H Q, r' x y H Q → r x y H Q) : OpR X f r' := fun pins s σ H x y v u Q I rx ry q => h pins s σ H x y v u Q I rx ry (i x y H Q q)
theorem opR_or {f : Value → Value → Sem Value} {K : Frag} {o o' : D → D → Option D} (h : OpR X f (rD K o)) (h' : OpR X f (rD K o')) : OpR X f (rD K fun x y => (o x y).or (o' x y)) := fun pins s σ H x y v u Q I rx ry q => by
  obtain ⟨F, d1, d2, d, q1, q2, q3, q4, q5⟩ := q
  have q4 : (o d1 d2).or (o' d1 d2) = some d := q4
  cases e : o d1 d2 with
  | some d' => rw [e] at q4; cases q4; exact h pins s σ H x y v u Q I rx ry ⟨F, d1, d2, _, q1, q2, q3, e, q5⟩
  | none => rw [e] at q4; exact h' pins s σ H x y v u Q I rx ry ⟨F, d1, d2, d, q1, q2, q3, q4, q5⟩
def oI (C : Int → Int → Bool) (z : Int → Int → Int) : D → D → Option D
  | .int i, .int j => if C i j then some (.int (z i j)) else none
  | _, _ => none
def oB (z : Int → Int → Bool) : D → D → Option D
  | .int i, .int j => some (.bl (z i j))
  | _, _ => none
theorem oI_some {C : Int → Int → Bool} {z : Int → Int → Int} {d1 d2 d : D} (h : oI C z d1 d2 = some d) : ∃ i j, d1 = .int i ∧ d2 = .int j ∧ C i j = true ∧ d = .int (z i j) := by
  cases d1 <;> cases d2 <;> simp only [oI] at h <;> first | (cases h; done) | skip
  split at h
  · exact ⟨_, _, rfl, rfl, by assumption, (Option.some.inj h).symm⟩
  · cases h
theorem oB_some {z : Int → Int → Bool} {d1 d2 d : D} (h : oB z d1 d2 = some d) : ∃ i j, d1 = .int i ∧ d2 = .int j ∧ d = .bl (z i j) := by
  cases d1 <;> cases d2 <;> simp only [oB] at h <;> first | (cases h; done) | skip
  exact ⟨_, _, rfl, rfl, (Option.some.inj h).symm⟩
theorem opI_D {fv : Value → Value → Sem Value} {P : Int → Int → Prop} {C : Int → Int → Bool} {z : Int → Int → Int} (h : OpR X fv (rI P fun i j => .int (z i j))) (hC : ∀ i j, C i j = true → P i j) : OpR X fv (rD X.K (oI C z)) :=
  opR_imp h fun x y H Q ⟨F, d1, d2, d, q1, q2, q3, q4, q5⟩ => by
    obtain ⟨i, j, rfl, rfl, c, rfl⟩ := oI_some q4
    exact ⟨i, j, rep_int.mp q2, rep_int.mp q3, hC i j c, q5 _ F H (.refl q1) (rep_int.mpr rfl)⟩
theorem opI0_D {fv : Value → Value → Sem Value} {z : Int → Int → Int} (h : OpR X fv (rI0 fun i j => .int (z i j))) : OpR X fv (rD X.K (oI (fun _ _ => true) z)) :=
  opR_imp h fun x y H Q ⟨F, d1, d2, d, q1, q2, q3, q4, q5⟩ => by
    obtain ⟨i, j, rfl, rfl, c, rfl⟩ := oI_some q4
    exact ⟨i, j, rep_int.mp q2, rep_int.mp q3, q5 _ F H (.refl q1) (rep_int.mpr rfl)⟩
theorem opB0_D {fv : Value → Value → Sem Value} {z : Int → Int → Bool} (h : OpR X fv (rI0 fun i j => .bl (z i j))) : OpR X fv (rD X.K (oB z)) :=
  opR_imp h fun x y H Q ⟨F, d1, d2, d, q1, q2, q3, q4, q5⟩ => by
    obtain ⟨i, j, rfl, rfl, rfl⟩ := oB_some q4
    exact ⟨i, j, rep_int.mp q2, rep_int.mp q3, q5 _ F H (.refl q1) (rep_bl.mpr rfl)⟩
abbrev oAdd := oI (fun _ _ => true) fun i j => i + j
abbrev oSub := oI (fun _ _ => true) fun i j => i - j
abbrev oMul := oI (fun i j => (decide (-(2 ^ 64) < i) && decide (i < 2 ^ 64)) || (decide (-(2 ^ 64) < j) && decide (j < 2 ^ 64))) fun i j => i * j
abbrev oDiv := oI (fun _ j => decide (0 < j) && decide (j < 1073741824)) fun i j => i / j
abbrev oMod := oI (fun _ j => decide (0 < j)) fun i j => i % j
abbrev oShr := oI (fun _ j => decide (0 ≤ j)) fun i j => i / 2 ^ j.toNat
theorem and_dec {p q : Prop} [Decidable p] [Decidable q] (h : (decide p && decide q) = true) : p ∧ q := by simpa using h
theorem od_add : OpR X (binaryOp .Add) (rD X.K oAdd) := opI0_D op_add
theorem od_sub : OpR X (binaryOp .Sub) (rD X.K oSub) := opI0_D op_sub
theorem od_mul : OpR X (binaryOp .Mult) (rD X.K oMul) := opI_D op_mul fun i j h => by
  rcases Bool.or_eq_true _ _ ▸ h with z | z
  · exact .inl (and_dec z)
  · exact .inr (and_dec z)
theorem od_div : OpR X (binaryOp .FloorDiv) (rD X.K oDiv) := opI_D op_fdiv fun i j h => and_dec h
theorem od_mod : OpR X (binaryOp .Mod) (rD X.K oMod) := opI_D op_mod fun i j h => of_decide_eq_true h
theorem od_shr : OpR X (binaryOp .RShift) (rD X.K oShr) := opI_D op_shr fun i j h => of_decide_eq_true h
abbrev oShl := oI (fun i j => decide (0 ≤ j) && (decide (j ≤ 1000000) && decide (i.natAbs < 2 ^ 64))) fun i j => i * 2 ^ j.toNat
abbrev oPow := oI (fun i j => decide (0 ≤ j) && (decide (j ≤ 1000000) && decide (i.natAbs < 2 ^ 64))) fun i j => i ^ j.toNat
theorem and_dec3 {p q r : Prop} [Decidable p] [Decidable q] [Decidable r] (h : (decide p && (decide q && decide r)) = true) : p ∧ q ∧ r := by simpa using h
theorem od_shl : OpR X (binaryOp .LShift) (rD X.K oShl) := opI_D op_shl fun i j h => and_dec3 h
theorem od_pow : OpR X (binaryOp .Pow) (rD X.K oPow) := opI_D op_pow fun i j h => and_dec3 h
abbrev oLt := oB fun i j => decide (i < j)
abbrev oGt := oB fun i j => decide (j < i)
abbrev oGe := oB fun i j => decide (j ≤ i)
theorem od_lt : OpR X (compareOp .Lt) (rD X.K oLt) := opB0_D op_lt
theorem od_gt : OpR X (compareOp .Gt) (rD X.K oGt) := opB0_D op_gt
theorem od_ge : OpR X (compareOp .GtE) (rD X.K oGe) := opB0_D op_ge
def flD : D → Option V
  | .non => some .non
  | .bl b => some (.bl b)
  | .int i => some (.int i)
  | .str x => some (.str x)
  | _ => none
theorem flD_rep {K : Frag} {H : Hp} {d : D} {v u : V} (h : flD d = some u) (r : Rep K H d v) : v = u := by
  cases d <;> simp only [flD] at h <;> first | (cases h; done) | skip
  · cases h; exact rep_non.mp r
  · cases h; exact rep_bl.mp r
  · cases h; exact rep_int.mp r
  · cases h; exact rep_str.mp r
def oEqF : D → D → Option D := fun d e => (flD d).bind fun x => (flD e).bind fun y => if scal x y then some (.bl (decide (x = y))) else none
def oNeF : D → D → Option D := fun d e => (flD d).bind fun x => (flD e).bind fun y => if scal x y then some (.bl (!decide (x = y))) else none
theorem od_eqF : OpR X (compareOp .Eq) (rD X.K oEqF) := opR_imp op_eq fun x y H Q ⟨F, d1, d2, d, q1, q2, q3, q4, q5⟩ => by
  obtain ⟨u, h1, q4⟩ := Option.bind_eq_some_iff.mp q4
  obtain ⟨w, h2, q4⟩ := Option.bind_eq_some_iff.mp q4
  cases flD_rep h1 q2
  cases flD_rep h2 q3
  split at q4
  · rename_i z
    cases q4
    exact ⟨z, q5 _ F H (.refl q1) (rep_bl.mpr rfl)⟩
  · cases q4
theorem od_neF : OpR X (compareOp .NotEq) (rD X.K oNeF) := opR_imp op_ne fun x y H Q ⟨F, d1, d2, d, q1, q2, q3, q4, q5⟩ => by
  obtain ⟨u, h1, q4⟩ := Option.bind_eq_some_iff.mp q4
  obtain ⟨w, h2, q4⟩ := Option.bind_eq_some_iff.mp q4
  cases flD_rep h1 q2
  cases flD_rep h2 q3
  split at q4
  · rename_i z
    cases q4
    exact ⟨z, q5 _ F H (.refl q1) (rep_bl.mpr rfl)⟩
  · cases q4
theorem pd_cmp {op : CmpOp} {o : D → D → Option D} (ho : OpR X (compareOp op) (rD X.K o)) (ha : PE X a (tD X.K f)) (hb : PE X b (tD X.K g)) (hm : behindInMarks op b = false := by first | exact nobehind _ (by decide) (by decide) | rfl) :
    PE X (.Compare a [op] [b] pos) (tD X.K (eOp o f g)) := pe_imp (pe_cmpR ho ha hb hm) fun σ H Q h => two h
def truD : D → Option Bool
  | .non => some false
  | .bl b => some b
  | .int i => some (i != 0)
  | .tup ds => some (!ds.isEmpty)
  | .lst ds => some (!ds.isEmpty)
  | .str x => if x.length ≤ lim then some ((x.length : Int) != 0) else none
  | _ => none
def bT (f : FE) : FT := fun ρ => (f ρ).bind truD
theorem truD_V {K : Frag} {F H : Hp} {d : D} {b : Bool} {v : V} (h : truD d = some b) (fh : Same F H) (r : Rep K F d v) : TruV K v H b := by
  cases d with
  | non => cases h; rw [rep_non.mp r]; rfl
  | bl c => cases h; rw [rep_bl.mp r]; rfl
  | int i => cases h; rw [rep_int.mp r]; rfl
  | str x =>
    simp only [truD] at h
    split at h
    · rename_i z
      cases h
      rw [rep_str.mp r]
      exact ⟨lim_size z, rfl⟩
    · cases h
  | tup ds =>
    cases h
    obtain ⟨p, xs, rfl, q1, q2⟩ := rep_tup.mp r
    refine .inr (.inl ⟨xs, same_seqT fh q1, ?_⟩)
    cases ds with
    | nil => rw [q2.nil_inv]; rfl
    | cons d ds => obtain ⟨y, r', rfl, _⟩ := q2.cons_inv; rfl
  | lst ds =>
    cases h
    obtain ⟨p, xs, rfl, q1, q2⟩ := rep_lst.mp r
    refine .inl ⟨xs, fh.seq q1, ?_⟩
    cases ds with
    | nil => rw [q2.nil_inv]; rfl
    | cons d ds => obtain ⟨y, r', rfl, _⟩ := q2.cons_inv; rfl
  | dct _ _ => cases h
  | dtt _ _ => cases h
  | obj _ => cases h
theorem td_val (ha : PE X a (tD X.K f)) (he : ∀ whole, isTrue a X.env whole = (do let v ← whole; standAt a.pos; holding [v] (truthy v)) := by intro _; rfl) : PT X a (tDT X.K (bT f)) :=
  pt_imp (pt_truth ha he) fun σ H Q ⟨F0, H0, F, ρ, b, r, hf, q⟩ => by
    obtain ⟨d, h1, h2⟩ := Option.bind_eq_some_iff.mp hf
    exact ⟨F0, H0, F, ρ, d, r, h1, fun v F' H' g' r' => ⟨b, truD_V h2 g'.fh r', q F' H' g'⟩⟩
def isB : D → Option Bool
  | .bl b => some b
  | _ => none
def bCmp (o : D → D → Option D) (f g : FE) : FT := fun ρ => (eOp o f g ρ).bind isB
theorem td_cmp {op : CmpOp} {o : D → D → Option D} (ho : OpR X (compareOp op) (rD X.K o)) (ha : PE X a (tD X.K f)) (hb : PE X b (tD X.K g)) (hm : behindInMarks op b = false := by first | exact nobehind _ (by decide) (by decide) | rfl) :
    PT X (.Compare a [op] [b] pos) (tDT X.K (bCmp o f g)) := pt_imp (pt_cmpR ho ha hb hm) fun σ H Q ⟨F0, H0, F, ρ, c, r, hf, q⟩ => by
  obtain ⟨d, h1, h2⟩ := Option.bind_eq_some_iff.mp hf
  refine two ⟨F0, H0, F, ρ, d, r, h1, fun v F' H' g' r' => ?_⟩
  cases d <;> simp only [isB] at h2 <;> first | (cases h2; done) | skip
  cases h2
  exact ⟨_, rep_bl.mp r', q F' H' g'⟩
def bNot (t : FT) : FT := fun ρ => (t ρ).map not
def bOr (t u : FT) : FT := fun ρ => (t ρ).bind fun c => if c then some true else u ρ
variable {t u : FT} {rest : List Expr}
theorem td_not (ha : PT X a (tDT X.K t)) : PT X (.UnaryOp .Not a pos) (tDT X.K (bNot t)) := pt_imp (pt_not ha) fun σ H Q ⟨F0, H0, F, ρ, c, r, hf, q⟩ => by
  obtain ⟨d, h1, h2⟩ := Option.map_eq_some_iff.mp hf
  subst h2
  exact ⟨F0, H0, F, ρ, d, r, h1, fun F' H' g' => q F' H' g'⟩
theorem pw_imp {t t' : TT} (h : PW X a t) (i : ∀ σ H Q, t' σ H Q → t σ H Q) : PW X a t' := fun wh pins s σ H Q I q => h wh pins s σ H Q I (i σ H Q q)
theorem tw_or1 (ha : PT X a (tDT X.K t)) : PW X (.BoolOp .Or [a] pos) (tDT X.K t) := pw_or1 ha
theorem tw_or (ha : PT X a (tDT X.K t)) (hb : PW X (.BoolOp .Or (b :: rest) pos) (tDT X.K u)) : PW X (.BoolOp .Or (a :: b :: rest) pos) (tDT X.K (bOr t u)) := pw_imp (pw_or ha hb) fun σ H Q ⟨F0, H0, F, ρ, c, r, hf, q⟩ => by
  obtain ⟨d, h1, h2⟩ := Option.bind_eq_some_iff.mp hf
  refine ⟨F0, H0, F, ρ, d, r, h1, fun F' H' g' => ?_⟩
  cases d with
  | false => rw [if_neg Bool.false_ne_true] at h2 ⊢; exact ⟨F0, H0, F', ρ, c, r.grow g', h2, fun F2 H2 g2 => q F2 H2 (g'.trans g2)⟩
  | true => rw [if_pos rfl] at h2 ⊢; cases h2; exact q F' H' g'
def eAnd (f g : FE) : FE := fun ρ => (f ρ).bind fun x => (isB x).bind fun c => if c then g ρ else some (.bl false)
def eNot (f : FE) : FE := fun ρ => (f ρ).bind fun x => (isB x).map fun c => .bl (!c)
def eIf (t : FT) (f g : FE) : FE := fun ρ => (t ρ).bind fun c => if c then f ρ else g ρ
theorem isB_some {d : D} {c : Bool} (h : isB d = some c) : d = .bl c := by
  cases d <;> simp only [isB] at h <;> first | (cases h; done) | skip
  rw [Option.some.inj h]
theorem pd_one {op} (h : PE X a (tD X.K f)) : PE X (.BoolOp op [a] pos) (tD X.K f) := pe_one h
theorem pd_and (ha : PE X a (tD X.K f)) (hb : PE X (.BoolOp .And (b :: rest) pos) (tD X.K g)) : PE X (.BoolOp .And (a :: b :: rest) pos) (tD X.K (eAnd f g)) := pe_imp (pe_and ha hb) fun σ H Q ⟨F0, H0, F, ρ, d, r, hf, q⟩ => by
  obtain ⟨x, h1, hf⟩ := Option.bind_eq_some_iff.mp hf
  obtain ⟨c, h2, h3⟩ := Option.bind_eq_some_iff.mp hf
  refine ⟨F0, H0, F, ρ, x, r, h1, fun v F' H' g' r' => ?_⟩
  rw [isB_some h2] at r'
  refine ⟨c, rep_bl.mp r', ?_⟩
  cases c with
  | true => rw [if_pos rfl] at h3 ⊢; exact ⟨F0, H0, F', ρ, d, r.grow g', h3, fun w F2 H2 g2 r2 => q w F2 H2 (g'.trans g2) r2⟩
  | false => rw [if_neg Bool.false_ne_true] at h3 ⊢; cases h3; exact q _ F' H' g' (rep_bl.mpr rfl)
theorem pd_not (ha : PE X a (tD X.K f)) : PE X (.UnaryOp .Not a pos) (tD X.K (eNot f)) := pe_imp (pe_not ha) fun σ H Q ⟨F0, H0, F, ρ, d, r, hf, q⟩ => by
  obtain ⟨x, h1, hf⟩ := Option.bind_eq_some_iff.mp hf
  obtain ⟨c, h2, h3⟩ := Option.map_eq_some_iff.mp hf
  subst h3
  refine ⟨F0, H0, F, ρ, x, r, h1, fun v F' H' g' r' => ?_⟩
  rw [isB_some h2] at r'
  exact ⟨c, rep_bl.mp r', q _ F' H' g' (rep_bl.mpr rfl)⟩
theorem pd_if {c : Expr} (hc : PT X c (tDT X.K t)) (ha : PE X a (tD X.K f)) (hb : PE X b (tD X.K g)) : PE X (.IfExp c a b pos) (tD X.K (eIf t f g)) := pe_imp (pe_ifExp hc ha hb) fun σ H Q ⟨F0, H0, F, ρ, d, r, hf, q⟩ => by
  obtain ⟨x, h1, h2⟩ := Option.bind_eq_some_iff.mp hf
  refine ⟨F0, H0, F, ρ, x, r, h1, fun F' H' g' => ?_⟩
  cases x with
  | true => rw [if_pos rfl] at h2 ⊢; exact ⟨F0, H0, F', ρ, d, r.grow g', h2, fun w F2 H2 g2 r2 => q w F2 H2 (g'.trans g2) r2⟩
  | false => rw [if_neg Bool.false_ne_true] at h2 ⊢; exact ⟨F0, H0, F', ρ, d, r.grow g', h2, fun w F2 H2 g2 r2 => q w F2 H2 (g'.trans g2) r2⟩
end
end DL
set_option maxRecDepth 100000
set_option maxHeartbeats 4000000
namespace DL
open PySem PySem.Spec PyProof.Rows L2
variable [Lam]
section
variable {X : Cx} {e : Expr} {es : List Expr} {pos : Pos} {f g : FE} {fa : FA}
def notStar : Expr → Bool
  | .Starred _ _ => false
  | _ => true
theorem star_ns {e : Expr} {es : List Expr} {env : Env} (h : notStar e = true) : starEach (e :: es) env = (false, eval e env) :: starEach es env := by
  cases e <;> first | rfl | cases h
def aNil : FA := fun _ => some []
def aCons (f : FE) (fa : FA) : FA := fun ρ => (f ρ).bind fun d => (fa ρ).map fun ds => d :: ds
theorem ad_nil : PA X [] (tDA X.K aNil) := pa_imp pa_nil fun σ H Q ⟨F0, H0, F, ρ, ds, r, hf, q⟩ => by
  cases hf
  exact q [] F H (.refl r.fh) .nil
theorem ad_cons (ha : PE X e (tD X.K f)) (hr : PA X es (tDA X.K fa)) (hs : starEach (e :: es) X.env = (false, eval e X.env) :: starEach es X.env := by first | exact star_ns rfl | rfl) : PA X (e :: es) (tDA X.K (aCons f fa)) :=
  pa_imp (pa_cons ha hr hs) fun σ H Q ⟨F0, H0, F, ρ, ds, r, hf, q⟩ => by
    obtain ⟨d, h1, hf⟩ := Option.bind_eq_some_iff.mp hf
    obtain ⟨ds', h2, h3⟩ := Option.map_eq_some_iff.mp hf
    subst h3
    refine ⟨F0, H0, F, ρ, d, r, h1, fun v F1 H1 g1 r1 => ⟨F0, H0, F1, ρ, ds', r.grow g1, h2, fun vs F2 H2 g2 r2 => ?_⟩⟩
    exact q _ F2 H2 (g1.trans g2) (.cons (r1.mono g2.ff) r2)
def eTup (fa : FA) : FE := fun ρ => (fa ρ).bind fun ds => if ds.length ≤ lim then some (.tup ds) else none
def lLst (fa : FA) : FA := fun ρ => (fa ρ).bind fun ds => if ds.length ≤ lim then some ds else none
theorem pd_tup {x1} (h : PA X es (tDA X.K fa)) : PE X (.Tuple es x1 pos) (tD X.K (eTup fa)) := pe_imp (pe_tup h) fun σ H Q ⟨F0, H0, F, ρ, d, r, hf, q⟩ => by
  obtain ⟨ds, h1, h2⟩ := Option.bind_eq_some_iff.mp hf
  split at h2
  · rename_i hl
    cases h2
    refine ⟨F0, H0, F, ρ, ds, r, h1, fun vs F1 H1 g1 r1 => ⟨lim_size (by rw [← r1.length]; exact hl), fun p hp => ?_⟩⟩
    have gn : Grow F1 H1 (upd F1 p (.tup vs)) (upd H1 p (.tup vs)) := Grow.new g1.fh hp
    exact q _ _ _ (g1.trans gn) (rep_tup.mpr ⟨p, vs, rfl, SqT.of upd_same, r1.mono gn.ff⟩)
  · cases h2
theorem ld_lst (h : PA X es (tDA X.K fa)) : PE X (.List es pos) (tL X.K (lLst fa)) := pe_imp (pe_lst h) fun σ H Q ⟨F0, H0, F, ρ, ds, r, hf, q⟩ => by
  obtain ⟨ds', h1, h2⟩ := Option.bind_eq_some_iff.mp hf
  split at h2
  · rename_i hl
    cases h2
    refine ⟨F0, H0, F, ρ, ds, r, h1, fun vs F1 H1 g1 r1 => ⟨lim_size (by rw [← r1.length]; exact hl), fun p hp => ?_⟩⟩
    exact q p vs F1 (upd H1 p (.lst vs)) (g1.trans (Grow.own g1.fh hp)) (g1.fh.free hp) (g1.hh.free hp) upd_same r1
  · cases h2
def eL (fa : FA) : FE := fun ρ => (fa ρ).map .lst
theorem pd_l (h : PE X e (tL X.K fa)) : PE X e (tD X.K (eL fa)) := pe_imp h fun σ H Q ⟨F0, H0, F, ρ, d, r, hf, q⟩ => by
  obtain ⟨ds, h1, h2⟩ := Option.map_eq_some_iff.mp hf
  subst h2
  refine ⟨F0, H0, F, ρ, ds, r, h1, fun a xs F1 H1 g1 fa' ha' hl r1 => ?_⟩
  have sF : Same F1 (upd F1 a (.lst xs)) := same_upd fa'
  refine q _ (upd F1 a (.lst xs)) H1 ⟨g1.ff.trans sF, g1.hh, fun b o z => ?_, fun b hb => ?_⟩ (rep_lst.mpr ⟨a, xs, rfl, SqL.of upd_same, r1.mono sF⟩)
  · by_cases q' : b = a
    · subst q'; rw [upd_same] at z; cases z; exact hl
    · rw [upd_ne q'] at z; exact g1.fh b o z
  · by_cases q' : b = a
    · subst q'; exact .inr ha'
    · rw [upd_ne q'] at hb; exact g1.nw b hb
def rC (K : Frag) (op : List D → Option D) : List V → Hp → VK → Prop := fun xs H Q => ∃ F ds d, Same F H ∧ RepL K F ds xs ∧ op ds = some d ∧ ∀ v F' H', Grow F H F' H' → Rep K F' d v → Q v H'
def eCall (op : List D → Option D) (fa : FA) : FE := fun ρ => (fa ρ).bind op
theorem callR_imp {f : Value} {r r' : List V → Hp → VK → Prop} (h : CallR X f r) (i : ∀ xs H Q, r' xs H Q → r xs H Q) : CallR X f r' := fun pins s σ H xs us Q I rv q => h pins s σ H xs us Q I rv (i xs H Q q)
theorem args_C {K : Frag} {op : List D → Option D} {σ : St} {H : Hp} {Q : VK} (h : tD K (eCall op fa) σ H Q) : tDA K fa σ H fun vs H1 => rC K op vs H1 Q := by
  obtain ⟨F0, H0, F, ρ, d, r, hf, q⟩ := h
  obtain ⟨ds, h1, h2⟩ := Option.bind_eq_some_iff.mp hf
  exact ⟨F0, H0, F, ρ, ds, r, h1, fun vs F1 H1 g1 r1 => ⟨F1, ds, d, g1.fh, r1, h2, fun v F2 H2 g2 r2 => q v F2 H2 (g1.trans g2) r2⟩⟩
theorem pd_callB {x : Str} {p : Pos} {id : String} {op : List D → Option D} (hc : CallR X (.builtin id) (rC X.K op)) (hg : Gl X x) (hm : X.mg x = none) (hv : bootBuiltins x = some (.builtin id)) (ha : PA X (e :: es) (tDA X.K fa))
    (hn : x ≠ "__name__" := by decide) (hdb : (x == ("__debug__" : Str)) = false := by decide)
    (he : starEach (e :: es) X.env = (false, eval e X.env) :: starEach es X.env := by rfl) (hpl : (backTo pos (starEach es X.env)).any (·.1) = false := by rfl) : PE X (.Call (.Name x p) (e :: es) [] pos) (tD X.K (eCall op fa)) :=
  pe_imp (pe_callB hc hg hm hv ha hn hdb he hpl) fun σ H Q h => args_C h
theorem pd_callTy {x : Str} {p : Pos} {T : String} {op : List D → Option D} (hc : CallR X (.type T) (rC X.K op)) (hg : Gl X x) (hm : X.mg x = none) (hv : bootBuiltins x = some (.type T)) (ha : PA X (e :: es) (tDA X.K fa))
    (hn : x ≠ "__name__" := by decide) (hdb : (x == ("__debug__" : Str)) = false := by decide)
    (he : starEach (e :: es) X.env = (false, eval e X.env) :: starEach es X.env := by rfl) (hpl : (backTo pos (starEach es X.env)).any (·.1) = false := by rfl) : PE X (.Call (.Name x p) (e :: es) [] pos) (tD X.K (eCall op fa)) :=
  pe_imp (pe_callTy hc hg hm hv ha hn hdb he hpl) fun σ H Q h => args_C h
def spD (K : Frag) (ar : Nat) (op : List D → Option D) : Sp := fun vs H Q _ => ∃ F ds d, SameT F H ∧ RepL K F ds vs ∧ ds.length = ar ∧ op ds = some d ∧ ∀ v F' H', Grow F H F' H' → Rep K F' d v → Q v H'
theorem SameT.grow {F H F' H' : Hp} (s : SameT F H) (g : Grow F H F' H') : SameT F' H' := ⟨g.fh, g.hh.tb s.t, fun p hp => by
  cases q : F' p.1 with
  | none => rfl
  | some o =>
    rcases g.nw p.1 (by rw [q]; simp) with z | z
    · exact absurd (s.f p hp) z
    · obtain ⟨ps, e, _⟩ := s.t p hp
      rw [e] at z; cases z⟩
def callD (ar : Nat) (dds : List D) (op : List D → Option D) : List D → Option D := fun ds => if (ds ++ dds).length = ar then op (ds ++ dds) else none
theorem pd_call {k ar : Nat} {fn : Addr} {fd : FuncData} {ps : List Str} {op : List D → Option D} {x : Str} {p : Pos} {dvs : List V} {dds : List D} {dv : List Value} (F : FnOk X.prog X.w X.K X.mg X.base CX0 k fn fd ps (spD X.K ar op)) (hr : Room k X.A) (hg : Gl X x) (hm : X.mg x = some (.ref fn)) (hk : PySem.W.keepIn X.K (.ref fn) = true)
    (hb : Binds X.K fd ps dv) (hd : Vals dvs dv) (hdd : ∀ H, RepL X.K H dds dvs) (ha : PA X (e :: es) (tDA X.K fa)) (hdb : (x == ("__debug__" : Str)) = false := by decide)
    (he : starEach (e :: es) X.env = (false, eval e X.env) :: starEach es X.env := by rfl) (hpl : (backTo pos (starEach es X.env)).any (·.1) = false := by rfl) :
    PE X (.Call (.Name x p) (e :: es) [] pos) (tD X.K (eCall (callD ar dds op) fa)) :=
  pe_imp (pe_call F hr hg hm hk hb hd pass0 ha hdb he hpl) fun σ H Q ⟨F0, H0, Fz, ρ, d, r, hf, q⟩ => by
    obtain ⟨ds, h1, h2⟩ := Option.bind_eq_some_iff.mp hf
    unfold callD at h2
    split at h2
    · rename_i hl
      exact ⟨F0, H0, Fz, ρ, ds, r, h1, fun vs F1 H1 g1 r1 => ⟨F1, ds ++ dds, d, r.sameT g1, r1.append (hdd F1), hl, h2, fun v F2 H2 g2 r2 => q v F2 H2 (g1.trans g2) r2⟩⟩
    · cases h2
end
section
variable {X : Cx} {st : Stmt} {rest : List Stmt} {e : Expr} {pos : Pos} {f : FE} {fa : FA} {t : FT} {u w : FS}
def sNil : FS := fun ρ => some (.nx, ρ)
def sSeq (u w : FS) : FS := fun ρ => (u ρ).bind fun r => match r with
  | (.nx, ρ') => w ρ'
  | (fl, ρ') => some (fl, ρ')
def sIf (t : FT) (u w : FS) : FS := fun ρ => (t ρ).bind fun c => if c then u ρ else w ρ
def sSet (i : Nat) (f : FE) : FS := fun ρ => (f ρ).map fun d => (.nx, ρ.set i (some (.fz d)))
def sOwn (i : Nat) (fa : FA) : FS := fun ρ => (fa ρ).map fun ds => (.nx, ρ.set i (some (.ow ds)))
def sRet (f : FE) : FS := fun ρ => (f ρ).map fun d => (.rt d, ρ)
theorem sd_nil : PSs X [] (tDS X.K sNil) := pss_imp pss_nil fun D σ H ⟨F0, H0, F, ρ, fl, ρ', r, hf, q⟩ => by
  cases hf
  exact q σ F H (.refl _) r
theorem out_same {K : Frag} {F0 H0 F F' : Hp} {D : Ends} {fl : Fl} {ρ' : Rho} (s : Same F F') (h : outOk K F0 H0 F D fl ρ') : outOk K F0 H0 F' D fl ρ' := by
  cases fl with
  | nx => exact fun σ' F2 H2 s2 r => h σ' F2 H2 (s.trans s2) r
  | bk => exact fun σ' F2 H2 s2 r => h σ' F2 H2 (s.trans s2) r
  | ct => exact fun σ' F2 H2 s2 r => h σ' F2 H2 (s.trans s2) r
  | rt d => exact h
theorem sd_cons (h1 : PS X st (tDS X.K u)) (h2 : PSs X rest (tDS X.K w)) : PSs X (st :: rest) (tDS X.K (sSeq u w)) := pss_imp (pss_cons h1 h2) fun D σ H ⟨F0, H0, F, ρ, fl, ρ', r, hf, q⟩ => by
  obtain ⟨⟨fl1, ρ1⟩, h3, h4⟩ := Option.bind_eq_some_iff.mp hf
  refine ⟨F0, H0, F, ρ, fl1, ρ1, r, h3, ?_⟩
  cases fl1 with
  | nx => exact fun σ' F' H' s r' => ⟨F0, H0, F', ρ1, fl, ρ', r', h4, out_same s q⟩
  | bk => cases h4; exact q
  | ct => cases h4; exact q
  | rt d => cases h4; exact q
theorem sd_one (h1 : PS X st (tDS X.K u)) : PSs X [st] (tDS X.K u) := pss_one h1
theorem sd_if {c : Expr} {a b : List Stmt} (hc : PT X c (tDT X.K t)) (ha : PSs X a (tDS X.K u)) (hb : PSs X b (tDS X.K w)) : PS X (.If c a b pos) (tDS X.K (sIf t u w)) := ps_imp (ps_if hc ha hb) fun D σ H ⟨F0, H0, F, ρ, fl, ρ', r, hf, q⟩ => by
  obtain ⟨c, h1, h2⟩ := Option.bind_eq_some_iff.mp hf
  refine ⟨F0, H0, F, ρ, c, r, h1, fun F' H' g' => ?_⟩
  cases c with
  | true => rw [if_pos rfl] at h2 ⊢; exact ⟨F0, H0, F', ρ, fl, ρ', r.grow g', h2, out_same g'.ff q⟩
  | false => rw [if_neg Bool.false_ne_true] at h2 ⊢; exact ⟨F0, H0, F', ρ, fl, ρ', r.grow g', h2, out_same g'.ff q⟩
theorem sd_ret (he : PE X e (tD X.K f)) : PS X (.Return (some e) pos) (tDS X.K (sRet f)) := ps_imp (ps_ret he) fun D σ H ⟨F0, H0, F, ρ, fl, ρ', r, hf, q⟩ => by
  obtain ⟨d, h1, h2⟩ := Option.map_eq_some_iff.mp hf
  cases h2
  exact ⟨F0, H0, F, ρ, d, r, h1, fun v F' H' g' r' => q v F' H' (r.g.trans g') r'⟩
theorem asg_D {K : Frag} {i : Nat} {D : Ends} {σ : St} {H : Hp} (h : tDS K (sSet i f) D σ H) : tD K f σ H fun x H1 => gName i x σ H1 D.nx := by
  obtain ⟨F0, H0, F, ρ, fl, ρ', r, hf, q⟩ := h
  obtain ⟨d, h1, h2⟩ := Option.map_eq_some_iff.mp hf
  cases h2
  exact ⟨F0, H0, F, ρ, d, r, h1, fun v F' H' g' r' => q _ F' H' g'.ff ((r.grow g').set i r')⟩
theorem asg_L {K : Frag} {i : Nat} {D : Ends} {σ : St} {H : Hp} (h : tDS K (sOwn i fa) D σ H) : tL K fa σ H fun x H1 => gName i x σ H1 D.nx := by
  obtain ⟨F0, H0, F, ρ, fl, ρ', r, hf, q⟩ := h
  obtain ⟨ds, h1, h2⟩ := Option.map_eq_some_iff.mp hf
  cases h2
  refine ⟨F0, H0, F, ρ, ds, r, h1, fun a xs F' H' g' fa' ha' hl r' => q _ F' H' g'.ff ((r.grow g').setO i hl fa' (r.g.hh.free ha') r' fun j es z1 z2 => ?_)⟩
  obtain ⟨b, ys, e1, e2, _⟩ := r.ow j es z1
  rw [z2] at e1
  obtain rfl : a = b := by simpa using e1
  rw [ha'] at e2; cases e2
theorem sd_set {i : Nat} {x : Str} {px : Pos} (hN : X.N.Nodup) (hi : X.N[i]? = some x) (hx : Loc X.env.scope x) (he : PE X e (tD X.K f)) (hs : swapsWith e (some (.Name x px)) pos.line X.env = pure false := by rfl) (hf : X.fn x = true ∨ X.env.scope.names.lookup x = some .local := by first | exact .inl rfl | exact .inr rfl | assumption) :
    PS X (.Assign [.Name x px] e pos) (tDS X.K (sSet i f)) := ps_imp (ps_set hN hi hx he hs hf) fun D σ H h => asg_D h
theorem sd_own {i : Nat} {x : Str} {px : Pos} (hN : X.N.Nodup) (hi : X.N[i]? = some x) (hx : Loc X.env.scope x) (he : PE X e (tL X.K fa)) (hs : swapsWith e (some (.Name x px)) pos.line X.env = pure false := by rfl) (hf : X.fn x = true ∨ X.env.scope.names.lookup x = some .local := by first | exact .inl rfl | exact .inr rfl | assumption) :
    PS X (.Assign [.Name x px] e pos) (tDS X.K (sOwn i fa)) := ps_imp (ps_set hN hi hx he hs hf) fun D σ H h => asg_L h
def owAt (i : Nat) (ρ : Rho) : Option (List D) := match ρ[i]? with
  | some (some (.ow ds)) => some ds
  | _ => none
theorem owAt_some {i : Nat} {ρ : Rho} {ds : List D} (h : owAt i ρ = some ds) : ρ[i]? = some (some (.ow ds)) := by
  unfold owAt at h
  split at h
  · rename_i e; rw [e, Option.some.inj h]
  · cases h
def sApp (i : Nat) (f : FE) : FS := fun ρ => (owAt i ρ).bind fun ds => (f ρ).bind fun d => if ds.length < lim then some (.nx, ρ.set i (some (.ow (ds ++ [d])))) else none
theorem sd_app {i : Nat} {x : Str} {px apos cpos : Pos} (hv : PE X (.Name x px) (tVar i)) (he : PE X e (tD X.K f))
    (hbase : attributeBase (.Name x px) "append" X.env (eval (.Name x px) X.env) = eval (.Name x px) X.env := by rfl)
    (hfew : ((backTo cpos (starEach [e] X.env)).all (fun x => !x.1) && (backToKw cpos (keywordEach [] X.env)).all (fun x => x.1.isSome) && decide ([e].length + ([] : List Keyword).length + (if ([] : List Keyword).isEmpty then 0 else 1) < 30)) = true := by rfl)
    (hline : (apos.endLine == cpos.line) = true := by rfl) (hse : starEach [e] X.env = (false, eval e X.env) :: starEach [] X.env := by rfl)
    (hs : swapsWith (.Call (.Attribute (.Name x px) "append" apos) [e] [] cpos) none pos.line X.env = pure false := by rfl) : PS X (.Expr (.Call (.Attribute (.Name x px) "append" apos) [e] [] cpos) pos) (tDS X.K (sApp i f)) :=
  ps_imp (ps_expr (pe_bm PySem.F.plainAttrs_list PySem.F.slot_list_append PySem.F.type_list_append mt_append hv (pa_cons he pa_nil hse) hbase hfew hline hse rfl) hs) fun D σ H ⟨F0, H0, F, ρ, fl, ρ', r, hf, q⟩ => by
    obtain ⟨ds, h1, hf⟩ := Option.bind_eq_some_iff.mp hf
    obtain ⟨d, h2, h3⟩ := Option.bind_eq_some_iff.mp hf
    have h1 := owAt_some h1
    split at h3
    · rename_i hl
      cases h3
      obtain ⟨a, xs, e1, e2, e3, e4, e5⟩ := r.ow i ds h1
      refine ⟨.ref a, e1, .inl ⟨rfl, xs, SqL.of e2⟩, F0, H0, F, ρ, d, r, h2, fun v F' H' g' r' => ?_⟩
      have r2 := r.grow g'
      refine ⟨a, xs, v, rfl, rfl, g'.hh.lst _ _ e2, lim_size' (by rw [← e5.length]; exact hl), ?_⟩
      exact q _ F' _ g'.ff (r2.wrt h1 e1 ((e5.mono g'.ff).append (.cons r' .nil)))
    · cases h3
def frz (i : Nat) (ρ : Rho) : Rho := match ρ[i]? with
  | some (some (.ow ds)) => ρ.set i (some (.fz (.lst ds)))
  | _ => ρ
def sFrz (i : Nat) (u : FS) : FS := fun ρ => u (frz i ρ)
theorem frz_ok {K : Frag} {F0 H0 F H : Hp} {σ : St} {ρ : Rho} (i : Nat) (r : RS K F0 H0 F H σ ρ) : ∃ F', Same F F' ∧ RS K F0 H0 F' H σ (frz i ρ) := by
  unfold frz
  split
  · rename_i ds h
    exact r.freeze h
  · exact ⟨F, .refl _, r⟩
theorem sd_frz (i : Nat) {sts : List Stmt} (h : PSs X sts (tDS X.K u)) : PSs X sts (tDS X.K (sFrz i u)) := pss_imp h fun D σ H ⟨F0, H0, F, ρ, fl, ρ', r, hf, q⟩ => by
  obtain ⟨F', s', r'⟩ := frz_ok i r
  exact ⟨F0, H0, F', frz i ρ, fl, ρ', r', hf, out_same s' q⟩
end
def runFn (n : Nat) (u : FS) (ds : List D) : Option D := match u (ds.map (fun d => some (.fz d)) ++ List.replicate (n - ds.length) none) with
  | some (.rt d, _) => some d
  | some (.nx, _) => some .non
  | _ => none
theorem start_get {N : List Str} {vs : List V} {i : Nat} {v : V} (h : vs[i]? = some v) : (L2.start N vs)[i]? = some (some v) := by
  unfold L2.start
  have hi : i < vs.length := (List.getElem?_eq_some_iff.mp h).1
  rw [List.getElem?_append_left (by simpa using hi), List.getElem?_map, h]; rfl
theorem fn_end {P : Program} {w : World} {K : Frag} {H : Hp} {vs : List V} {Q : VK} {N : List Str} {u : FS} {ar : Nat} {E : XK} (hl : ar ≤ N.length) (h : spD K ar (runFn N.length u) vs H Q E) : tDS K u { nx := fun _ H' => Q .non H', rt := Q } (L2.start N vs) H := by
  obtain ⟨F, ds, d, fh, rl, el, hd, q⟩ := h
  have hlen := rl.length
  have r : RS K F H F H (L2.start N vs) (ds.map (fun d => some (.fz d)) ++ List.replicate (N.length - ds.length) none) := {
    t0 := ⟨fh.t, fh.f⟩
    g := .refl fh.s
    len := by unfold L2.start; simp only [List.length_append, List.length_map, List.length_replicate]; lia
    fz := fun i e h1 => by
      by_cases hi : i < ds.length
      · rw [List.getElem?_append_left (by simpa using hi), List.getElem?_map] at h1
        cases z : ds[i]? with
        | none => rw [z] at h1; cases h1
        | some d' =>
          rw [z] at h1
          cases h1
          obtain ⟨v, e1, e2⟩ := rl.get z
          exact ⟨v, start_get e1, e2⟩
      · rw [List.getElem?_append_right (by simpa using hi), List.getElem?_replicate] at h1
        split at h1 <;> cases h1
    ow := fun i es h1 => by
      by_cases hi : i < ds.length
      · rw [List.getElem?_append_left (by simpa using hi), List.getElem?_map] at h1
        cases z : ds[i]? with
        | none => rw [z] at h1; cases h1
        | some d' => rw [z] at h1; cases h1
      · rw [List.getElem?_append_right (by simpa using hi), List.getElem?_replicate] at h1
        split at h1 <;> cases h1
    dj := fun i j us es a _ h1 => by
      by_cases hi : i < ds.length
      · rw [List.getElem?_append_left (by simpa using hi), List.getElem?_map] at h1
        cases z : ds[i]? with
        | none => rw [z] at h1; cases h1
        | some d' => rw [z] at h1; cases h1
      · rw [List.getElem?_append_right (by simpa using hi), List.getElem?_replicate] at h1
        split at h1 <;> cases h1 }
  unfold runFn at hd
  cases z : u (ds.map (fun d => some (.fz d)) ++ List.replicate (N.length - ds.length) none) with
  | none => rw [z] at hd; cases hd
  | some p =>
    obtain ⟨fl, ρ'⟩ := p
    rw [z] at hd
    refine ⟨F, H, F, _, fl, ρ', r, z, ?_⟩
    cases fl with
    | nx => cases hd; exact fun σ' F' H' s' r' => q .non F' H' r'.g (rep_non.mpr rfl)
    | bk => cases hd
    | ct => cases hd
    | rt d' => cases hd; exact fun v F' H' g' r' => q v F' H' g' r'
theorem fn_ok {P : Program} {w : World} {K : Frag} {mg : Str → Option Value} {base : Heap} {k : Nat} {f : Addr} {name qual : Str} {params : Arguments} {body : List Stmt} {scope : Scope} {dV kV doc pm cdv ct oc : Value} {an od : Option Addr}
    {osl : Array (Option Value)} {N ps : List Str} {u : FS} (lk : K.lookup f = some ⟨oc, od, .func (PySem.W.fnOf name qual params body scope dV kV doc pm an cdv ct), osl⟩) (hcd : PySem.W.codeIn K cdv qual = true) (S : FnScope N ps scope)
    (hb : ∀ (A : Around) (outer : List Env) (s : Shared) (H : Hp) (E : XK), Room k (A.deeper (envOfC qual scope s.heap.objs.size f cdv)) → PSs (cxOf CX0 P w K mg base N qual scope f cdv A outer s H E).nox body (tDS K u)) :
    FnOk P w K mg base CX0 (k + 1) f (PySem.W.fnOf name qual params body scope dV kV doc pm an cdv ct) ps (spD K ps.length (runFn N.length u)) := by
  have hpl : ps.length ≤ N.length := by have := congrArg List.length S.pre; rw [List.length_take] at this; lia
  refine fn_of lk hcd S (fun vs H Q E h => ?_) fun A outer s H vs Q E hr hsp => ⟨_, (hb A outer s H E hr).nox, fn_end (P := P) (w := w) hpl hsp⟩
  obtain ⟨F, ds, d, _, rl, el, _⟩ := h
  rw [← rl.length]; exact el
end DL
set_option maxRecDepth 100000
set_option maxHeartbeats 4000000
namespace DL
open PySem PySem.Spec PyProof.Rows L2
variable [Lam]
structure ItD (K : Frag) (F : Hp) (ds : List D) (J : It) : Prop where
  go : ∀ (i : Nat) (F' H : Hp), Same F F' → Same F' H → i < ds.length → J.go i H
  yld : ∀ (i : Nat) (d : D) (F' H : Hp) (x : V) (H' : Hp), Same F F' → Same F' H → ds[i]? = some d → J.yld i H x H' → ∃ F'', Grow F' H F'' H' ∧ Rep K F'' d x
  stop : ∀ (i : Nat) (F' H : Hp), Same F F' → Same F' H → ds.length ≤ i → J.stop i H
def tDI (K : Frag) (f : FA) : TI := fun σ H R => ∃ F0 H0 F ρ ds, RS K F0 H0 F H σ ρ ∧ f ρ = some ds ∧ ∀ J F' H', Grow F H F' H' → ItD K F' ds J → R J H'
abbrev FB := D → Rho → Option Rho
abbrev FBs := List D → Rho → Option Rho
def tDG (K : Frag) (b : FB) : TG := fun v σ H Q => ∃ F0 H0 F ρ d ρ', RS K F0 H0 F H σ ρ ∧ Rep K F d v ∧ b d ρ = some ρ' ∧ ∀ σ', RS K F0 H0 F H σ' ρ' → Q σ' H
def tDGs (K : Frag) (b : FBs) : TGs := fun vs σ H Q => ∃ F0 H0 F ρ ds ρ', RS K F0 H0 F H σ ρ ∧ RepL K F ds vs ∧ b ds ρ = some ρ' ∧ ∀ σ', RS K F0 H0 F H σ' ρ' → Q σ' H
section
variable {X : Cx} {tg e : Expr} {es : List Expr} {pos : Pos}
theorem pi_imp {t t' : TI} (h : PI X tg e t) (i : ∀ σ H R, t' σ H R → t σ H R) : PI X tg e t' := fun pins s σ H R I q => h pins s σ H R I (i σ H R q)
theorem pg_imp {t t' : TG} (h : PG X e t) (i : ∀ v σ H Q, t' v σ H Q → t v σ H Q) : PG X e t' := fun pins s σ H v u Q I r q => h pins s σ H v u Q I r (i v σ H Q q)
theorem pgs_imp {t t' : TGs} (h : PGs X es t) (i : ∀ v σ H Q, t' v σ H Q → t v σ H Q) : PGs X es t' := fun pins s σ H v u Q I r q => h pins s σ H v u Q I r (i v σ H Q q)
def bN (i : Nat) : FB := fun d ρ => some (ρ.set i (some (.fz d)))
def bNil : FBs := fun ds ρ => if ds.isEmpty then some ρ else none
def bCons (b : FB) (bs : FBs) : FBs := fun ds ρ => match ds with
  | d :: r => (b d ρ).bind fun ρ' => bs r ρ'
  | [] => none
def bTup (n : Nat) (bs : FBs) : FB := fun d ρ => match d with
  | .tup ds => if ds.length = n then bs ds ρ else none
  | _ => none
theorem gd_name {i : Nat} {x : Str} (hN : X.N.Nodup) (hi : X.N[i]? = some x) (hx : Loc X.env.scope x) (hf : X.fn x = true ∨ X.env.scope.names.lookup x = some .local := by first | exact .inl rfl | exact .inr rfl | assumption) : PG X (.Name x pos) (tDG X.K (bN i)) :=
  pg_imp (pg_name hN hi hx hf) fun v σ H Q ⟨F0, H0, F, ρ, d, ρ', r, hr, hb, q⟩ => by
    cases hb
    exact q _ (r.set i hr)
theorem gd_nil : PGs X [] (tDGs X.K bNil) := pgs_imp pgs_nil fun vs σ H Q ⟨F0, H0, F, ρ, ds, ρ', r, hr, hb, q⟩ => by
  unfold bNil at hb
  split at hb
  · rename_i z
    cases hb
    have z' : ds = [] := by simpa using z
    subst z'
    exact ⟨hr.nil_inv, q σ r⟩
  · cases hb
theorem gd_cons {b : FB} {bs : FBs} (h1 : PG X e (tDG X.K b)) (h2 : PGs X es (tDGs X.K bs)) (hs : (assignEach (e :: es) X.env).map (·.2) = assign e X.env :: (assignEach es X.env).map (·.2) := by rfl) : PGs X (e :: es) (tDGs X.K (bCons b bs)) :=
  pgs_imp (pgs_cons h1 h2 hs) fun vs σ H Q ⟨F0, H0, F, ρ, ds, ρ', r, hr, hb, q⟩ => by
    cases ds with
    | nil => cases hb
    | cons d ds =>
      obtain ⟨v, vr, rfl, h3, h4⟩ := hr.cons_inv
      obtain ⟨ρ1, h5, h6⟩ := Option.bind_eq_some_iff.mp hb
      exact ⟨v, vr, rfl, F0, H0, F, ρ, d, ρ1, r, h3, h5, fun σ' r' => ⟨F0, H0, F, ρ1, ds, ρ', r', h4, h6, q⟩⟩
theorem gd_tup {k n : Nat} {bs : FBs} (hc : X.calm = true) (h : PGs X es (tDGs X.K bs)) (hn : (assignEach es X.env).length = n := by rfl) (hst : (assignEach es X.env).findIdx? (·.1) = none := by rfl) : PG X (.Tuple es k pos) (tDG X.K (bTup n bs)) :=
  pg_imp (pg_tup hc h hn hst) fun v σ H Q ⟨F0, H0, F, ρ, d, ρ', r, hr, hb, q⟩ => by
    cases d <;> simp only [bTup] at hb <;> first | (cases hb; done) | skip
    rename_i ds
    split at hb
    · rename_i hl
      obtain ⟨a, xs, rfl, h1, h2⟩ := rep_tup.mp hr
      exact ⟨a, xs, rfl, same_seqT r.fh h1, by rw [← h2.length]; exact hl, F0, H0, F, ρ, ds, ρ', r, h2, hb, q⟩
    · cases hb
theorem itd_list {K : Frag} {F : Hp} {a : Addr} {xs : List V} {ds : List D} (h : SqL K F a xs) (hd : RepL K F ds xs) : ItD K F ds (Itl K a) where
  go := fun i F' H s1 s2 hi => ⟨xs, xs[i]'(by rw [← hd.length]; exact hi), (s1.trans s2).seq h, by simp⟩
  yld := fun i d F' H x H' s1 s2 hi ⟨e, y⟩ => by
    subst e
    obtain ⟨z, h1, h2⟩ := hd.get hi
    have := y xs ((s1.trans s2).seq h)
    rw [h1] at this; cases this
    exact ⟨F', .refl s2, h2.mono s1⟩
  stop := fun i F' H s1 s2 hi => ⟨xs, (s1.trans s2).seq h, by rw [← hd.length]; exact hi⟩
theorem itd_tup {K : Frag} {F : Hp} {a : Addr} {xs : List V} {ds : List D} (h : SqT K F a xs) (hd : RepL K F ds xs) : ItD K F ds (Itt K a) where
  go := fun i F' H s1 s2 hi => ⟨xs, xs[i]'(by rw [← hd.length]; exact hi), same_seqT (s1.trans s2) h, by simp⟩
  yld := fun i d F' H x H' s1 s2 hi ⟨e, y⟩ => by
    subst e
    obtain ⟨z, h1, h2⟩ := hd.get hi
    have := y xs (same_seqT (s1.trans s2) h)
    rw [h1] at this; cases this
    exact ⟨F', .refl s2, h2.mono s1⟩
  stop := fun i F' H s1 s2 hi => ⟨xs, same_seqT (s1.trans s2) h, by rw [← hd.length]; exact hi⟩
def rangeD (lo : Int) (n : Nat) : List D := (List.range n).map fun i : Nat => .int (lo + i)
theorem itd_range {K : Frag} {F : Hp} (lo : Int) (n : Nat) : ItD K F (rangeD lo n) (Itr lo n) where
  go := fun i F' H s1 s2 hi => by show i < n; simpa [rangeD] using hi
  yld := fun i d F' H x H' s1 s2 hi ⟨e, y⟩ => by
    subst e y
    simp only [rangeD, List.getElem?_map] at hi
    cases q : (List.range n)[i]? with
    | none => rw [q] at hi; cases hi
    | some j =>
      rw [q] at hi
      cases hi
      have : j = i := by
        have h2 := List.getElem?_eq_some_iff.mp q
        obtain ⟨h3, h4⟩ := h2
        rw [List.getElem_range] at h4
        exact h4.symm
      subst this
      exact ⟨F', .refl s2, rep_int.mpr rfl⟩
  stop := fun i F' H s1 s2 hi => by show n ≤ i; simpa [rangeD] using hi
def seqD : D → Option (List D)
  | .tup ds => some ds
  | .lst ds => some ds
  | _ => none
def iSeq (f : FE) : FA := fun ρ => (f ρ).bind seqD
theorem pi_or {l : Expr} {tl : TE} (hl : PE X l tl) : PI X tg l (fun σ H R => tl σ H fun x H1 => (∃ a, x = .ref a ∧ (∃ xs, SqL X.K H1 a xs) ∧ R (Itl X.K a) H1) ∨ (∃ a, x = .ref a ∧ (∃ xs, SqT X.K H1 a xs) ∧ R (Itt X.K a) H1)) := by
  intro pins s σ H R I h
  refine thn (hl pins s σ H _ I h) fun v s1 ⟨x, H1, I1, r1, q1⟩ => ?_
  rcases q1 with ⟨a, e, ⟨xs, hq⟩, q⟩ | ⟨a, e, ⟨xs, hq⟩, q⟩
  · subst e
    cases r1
    obtain ⟨its, rv, p, hz⟩ := I1.list hq
    refine wpAny_pyIter_list p.isList ?_
    refine ⟨s1.heap.objs.size, [s1.heap.objs.size], _, _, H1, rfl, I1.kept (t' := s1.toks) fun b o e => Heap.get?_push_of_some _ e, turn_list a _, ⟨_, Heap.get?_push_size _ rfl, rfl, rfl⟩, fun b hb => ?_, q⟩
    have e : b = s1.heap.objs.size := by simpa using hb
    subst e
    exact I1.fpOk (Nat.le_refl _) (I1.hok.fresh (Nat.le_refl _))
  · subst e
    cases r1
    obtain ⟨its, rv, p, hz⟩ := I1.tuple hq
    refine wpAny_pyIter_tuple (show s1.heap.IsTuple a its.toArray from p) ?_
    refine ⟨s1.heap.objs.size, [s1.heap.objs.size], _, _, H1, rfl, I1.kept (t' := s1.toks) fun b o e => Heap.get?_push_of_some _ e, turn_tuple a _, ⟨_, Heap.get?_push_size _ rfl, rfl, rfl⟩, fun b hb => ?_, q⟩
    have e : b = s1.heap.objs.size := by simpa using hb
    subst e
    exact I1.fpOk (Nat.le_refl _) (I1.hok.fresh (Nat.le_refl _))
theorem id_seq {f : FE} (h : PE X e (tD X.K f)) : PI X tg e (tDI X.K (iSeq f)) := pi_imp (pi_or h) fun σ H R ⟨F0, H0, F, ρ, ds, r, hf, q⟩ => by
  obtain ⟨d, h1, h2⟩ := Option.bind_eq_some_iff.mp hf
  refine ⟨F0, H0, F, ρ, d, r, h1, fun v F' H' g' r' => ?_⟩
  cases d <;> simp only [seqD] at h2 <;> first | (cases h2; done) | skip
  · cases h2
    obtain ⟨a, xs, rfl, h3, h4⟩ := rep_tup.mp r'
    exact .inr ⟨a, rfl, ⟨xs, same_seqT g'.fh h3⟩, q _ F' H' g' (itd_tup h3 h4)⟩
  · cases h2
    obtain ⟨a, xs, rfl, h3, h4⟩ := rep_lst.mp r'
    exact .inl ⟨a, rfl, ⟨xs, g'.fh.seq h3⟩, q _ F' H' g' (itd_list h3 h4)⟩
def iR1 (fa : FA) : FA := fun ρ => (fa ρ).bind fun ds => match ds with
  | [.int j] => if decide (-(2 ^ 62) ≤ j) && decide (j < 2 ^ 62) then some (rangeD 0 j.toNat) else none
  | _ => none
def iR2 (fa : FA) : FA := fun ρ => (fa ρ).bind fun ds => match ds with
  | [.int i, .int j] => if (decide (-(2 ^ 62) ≤ i) && decide (i < 2 ^ 62)) && (decide (-(2 ^ 62) ≤ j) && decide (j < 2 ^ 62)) then some (rangeD i (j - i).toNat) else none
  | _ => none
theorem id_range1 {a : Expr} {fa : FA} {p : Pos} (hg : Gl X "range") (hm : X.mg "range" = none) (ha : PA X [a] (tDA X.K fa)) (hs : starEach [a] X.env = [(false, eval a X.env)] := by rfl) : PI X tg (.Call (.Name "range" p) [a] [] pos) (tDI X.K (iR1 fa)) :=
  pi_imp (pi_range1 hg hm ha hs) fun σ H R ⟨F0, H0, F, ρ, ds, r, hf, q⟩ => by
    obtain ⟨es, h1, h2⟩ := Option.bind_eq_some_iff.mp hf
    refine ⟨F0, H0, F, ρ, es, r, h1, fun vs F' H' g' r' => ?_⟩
    split at h2
    · rename_i j
      split at h2
      · rename_i z
        cases h2
        obtain ⟨x, t, rfl, h3, h4⟩ := r'.cons_inv
        cases h4.nil_inv
        obtain ⟨z1, z2⟩ := and_dec z
        exact ⟨j, by rw [rep_int.mp h3], z1, z2, q _ F' H' g' (itd_range 0 _)⟩
      · cases h2
    · cases h2
theorem id_range2 {a b : Expr} {fa : FA} {p : Pos} (hg : Gl X "range") (hm : X.mg "range" = none) (ha : PA X [a, b] (tDA X.K fa)) (hs : starEach [a, b] X.env = [(false, eval a X.env), (false, eval b X.env)] := by rfl) (hs2 : starEach [b] X.env = [(false, eval b X.env)] := by rfl) :
    PI X tg (.Call (.Name "range" p) [a, b] [] pos) (tDI X.K (iR2 fa)) :=
  pi_imp (pi_range2 hg hm ha hs hs2) fun σ H R ⟨F0, H0, F, ρ, ds, r, hf, q⟩ => by
    obtain ⟨es, h1, h2⟩ := Option.bind_eq_some_iff.mp hf
    refine ⟨F0, H0, F, ρ, es, r, h1, fun vs F' H' g' r' => ?_⟩
    split at h2
    · rename_i i j
      split at h2
      · rename_i z
        cases h2
        obtain ⟨x, t, rfl, h3, h4⟩ := r'.cons_inv
        obtain ⟨x2, t2, rfl, h5, h6⟩ := h4.cons_inv
        cases h6.nil_inv
        rw [Bool.and_eq_true] at z
        obtain ⟨z1, z2⟩ := and_dec z.1
        obtain ⟨z3, z4⟩ := and_dec z.2
        exact ⟨i, j, by rw [rep_int.mp h3, rep_int.mp h5], ⟨z1, z2, z3, z4⟩, q _ F' H' g' (itd_range _ _)⟩
      · cases h2
    · cases h2
def runFor (b : FB) (body : FS) : List D → Rho → Option (Fl × Rho)
  | [], ρ => some (.nx, ρ)
  | d :: ds, ρ => (b d ρ).bind fun ρ1 => (body ρ1).bind fun r => match r with
    | (.nx, ρ2) => runFor b body ds ρ2
    | (.ct, ρ2) => runFor b body ds ρ2
    | (.bk, ρ2) => some (.nx, ρ2)
    | (.rt v, ρ2) => some (.rt v, ρ2)
def sFor (it : FA) (b : FB) (body : FS) : FS := fun ρ => (it ρ).bind fun ds => runFor b body ds ρ
theorem sd_for {iter : Expr} {body : List Stmt} {it : FA} {b : FB} {u : FS} (hp : PassesOwn (model X.prog X.w) X.A X.env X.xe) (hc : X.calm = true) (hi : PI X tg iter (tDI X.K it)) (hg : PG X tg (tDG X.K b)) (hb : PSs X body (tDS X.K u))
    (hs : ∀ x, foldedSetIterable iter X.env x = pure x := by intro _; rfl) : PS X (.For tg iter body [] pos) (tDS X.K (sFor it b u)) := ps_imp (ps_for hp hc hi hg hb hs) fun D σ H ⟨F0, H0, F, ρ, fl, ρ', r, hf, q⟩ => by
  obtain ⟨ds, h1, h2⟩ := Option.bind_eq_some_iff.mp hf
  refine ⟨F0, H0, F, ρ, ds, r, h1, fun J F1 H1 g1 itd => ?_⟩
  refine ⟨fun i m σ H => m = ds.length - i ∧ i ≤ ds.length ∧ ∃ F' ρi, Same F1 F' ∧ RS X.K F0 H0 F' H σ ρi ∧ runFor b u (ds.drop i) ρi = some (fl, ρ'), ⟨ds.length, by simp, Nat.zero_le _, F1, ρ, .refl _, r.grow g1, by simpa using h2⟩, ?_⟩
  rintro i m σ H ⟨rfl, hi, F', ρi, s1, r1, h3⟩
  by_cases hlt : i < ds.length
  · have hd : ds.drop i = ds[i] :: ds.drop (i + 1) := List.drop_eq_getElem_cons hlt
    rw [hd] at h3
    obtain ⟨ρ1, h4, h5⟩ := Option.bind_eq_some_iff.mp h3
    obtain ⟨⟨fl1, ρ2⟩, h6, h7⟩ := Option.bind_eq_some_iff.mp h5
    refine .inr ⟨itd.go i F' H s1 r1.fh hlt, fun σ' H' => ∃ F', Same F1 F' ∧ RS X.K F0 H0 F' H' σ' ρ2 ∧ runFor b u (ds.drop (i + 1)) ρ2 = some (fl, ρ'), fun σ' H' ⟨F', z1, z2, z3⟩ => ⟨ds.length - (i + 1), by omega, rfl, hlt, F', ρ2, z1, z2, z3⟩, fun x H' y => ?_⟩
    obtain ⟨F2, g2, r2⟩ := itd.yld i ds[i] F' H x H' s1 r1.fh (by simp [hlt]) y
    refine ⟨F0, H0, F2, ρi, ds[i], ρ1, r1.grow g2, r2, h4, fun σ' r3 => ⟨F0, H0, F2, ρ1, fl1, ρ2, r3, h6, ?_⟩⟩
    cases fl1 with
    | nx => exact fun σ2 F3 H3 s3 r4 => ⟨F3, (s1.trans g2.ff).trans s3, r4, h7⟩
    | ct => exact fun σ2 F3 H3 s3 r4 => ⟨F3, (s1.trans g2.ff).trans s3, r4, h7⟩
    | bk => cases h7; exact fun σ2 F3 H3 s3 r4 => q σ2 F3 H3 ((g1.ff.trans (s1.trans g2.ff)).trans s3) r4
    | rt d => cases h7; exact q
  · have e : i = ds.length := by omega
    subst e
    rw [List.drop_length] at h3
    cases h3
    exact .inl ⟨itd.stop _ F' H s1 r1.fh (Nat.le_refl _), q σ F' H (g1.ff.trans s1) r1⟩
end
end DL
set_option maxRecDepth 100000
set_option maxHeartbeats 4000000
namespace DL
open PySem PySem.Spec PyProof.Rows L2
variable [Lam]
def fzOf : Option B → Option B
  | some (.fz d) => some (.fz d)
  | _ => none
def capR (cap : List (Option Nat)) (ρ : Rho) : Rho := cap.map fun o => o.bind fun j => fzOf (ρ[j]?).join
structure Sub (ρ ρ' : Rho) : Prop where
  len : ρ.length = ρ'.length
  sub : ∀ (i : Nat) (b : B), ρ[i]? = some (some b) → ρ'[i]? = some (some b)
theorem RS.weak {K : Frag} {F0 H0 F H : Hp} {σ : St} {ρ ρ' : Rho} (r : RS K F0 H0 F H σ ρ') (s : Sub ρ ρ') : RS K F0 H0 F H σ ρ where
  t0 := r.t0
  g := r.g
  len := by rw [s.len]; exact r.len
  fz := fun i d e => r.fz i d (s.sub i _ e)
  ow := fun i ds e => r.ow i ds (s.sub i _ e)
  dj := fun i j ds es a h e1 e2 => r.dj i j ds es a h (s.sub i _ e1) (s.sub j _ e2)
def NoOwn (ρ : Rho) : Prop := ∀ (i : Nat) (ds : List D), ρ[i]? ≠ some (some (.ow ds))
theorem noOwn_cap (cap : List (Option Nat)) (ρ : Rho) : NoOwn (capR cap ρ) := fun i ds h => by
  unfold capR at h
  rw [List.getElem?_map] at h
  cases q : cap[i]? with
  | none => rw [q] at h; cases h
  | some o =>
    rw [q] at h
    cases o with
    | none => cases h
    | some j =>
      simp only [Option.map_some, Option.bind_some, Option.some.injEq] at h
      generalize (ρ[j]?).join = z at h
      cases z with
      | none => cases h
      | some b => cases b <;> cases h
theorem rs_cap {K : Frag} {F0 H0 F H : Hp} {σ : St} {ρ : Rho} (cap : List (Option Nat)) (r : RS K F0 H0 F H σ ρ) : RS K F H F H (capS cap σ) (capR cap ρ) where
  t0 := ⟨r.tab, r.tabF⟩
  g := .refl r.fh
  len := by unfold capS capR; rw [List.length_map, List.length_map]
  fz := fun i d h => by
    unfold capR at h
    rw [List.getElem?_map] at h
    cases q : cap[i]? with
    | none => rw [q] at h; cases h
    | some o =>
      rw [q] at h
      cases o with
      | none => cases h
      | some j =>
        simp only [Option.map_some, Option.bind_some, Option.some.injEq] at h
        have e : ρ[j]? = some (some (.fz d)) := by
          cases z : ρ[j]? with
          | none => rw [z] at h; cases h
          | some b =>
            rw [z] at h
            cases b with
            | none => cases h
            | some b => cases b with
              | fz d' => cases h; rfl
              | ow _ => cases h
        obtain ⟨v, e1, e2⟩ := r.fz j d e
        refine ⟨v, ?_, e2⟩
        unfold capS
        rw [List.getElem?_map, q]
        simp only [Option.map_some, Option.bind_some, e1, Option.join_some]
  ow := fun i ds h => absurd h (noOwn_cap cap ρ i ds)
  dj := fun i j ds es a _ h => absurd h (noOwn_cap cap ρ i ds)
theorem RS.other {K : Frag} {F0 H0 F H : Hp} {σ : St} {ρ : Rho} (r : RS K F0 H0 F H σ ρ) (no : NoOwn ρ) {p : Addr} {o : HO} (h1 : F p = none) (h2 : H0 p = none) (h3 : H p = none ∨ ∃ xs, H p = some (.lst xs)) : RS K F0 H0 F (upd H p o) σ ρ where
  t0 := r.t0
  g := ⟨r.g.ff, ⟨fun b u e => by rw [upd_ne (fun z => by subst z; rw [h2] at e; cases e)]; exact r.g.hh.lst b u e, fun b u e => by rw [upd_ne (fun z => by subst z; rw [h2] at e; cases e)]; exact r.g.hh.ext b u e, fun {b} e => by
      by_cases z : b = p
      · subst z; exact h2
      · rw [upd_ne z] at e; exact r.g.hh.free e, fun t => (r.g.hh.tb t).upd h3⟩, fun b u e => by rw [upd_ne (fun z => by subst z; rw [h1] at e; cases e)]; exact r.g.fh b u e, r.g.nw⟩
  len := r.len
  fz := r.fz
  ow := fun i ds h => absurd h (no i ds)
  dj := fun i j ds es a _ h => absurd h (no i ds)
theorem grow_none {F H F' H' : Hp} {p : Addr} (g : Grow F H F' H') (h1 : F p = none) {o : HO} (h2 : H p = some o) : F' p = none := by
  cases q : F' p with
  | none => rfl
  | some u =>
    rcases g.nw p (by rw [q]; simp) with z | z
    · exact absurd h1 z
    · rw [h2] at z; cases z
def runComp (b : FB) (c : FT) (f : FE) (ρ : Rho) : List D → Option (List D)
  | [] => some []
  | d :: ds => (b d ρ).bind fun ρ1 => (c ρ1).bind fun t => if t then (f ρ1).bind fun y => (runComp b c f ρ ds).map fun ys => y :: ys else runComp b c f ρ ds
def cTrue : FT := fun _ => some true
def lComp (it : FA) (cap : List (Option Nat)) (b : FB) (c : FT) (f : FE) : FA := fun ρ => (it ρ).bind fun ds => if ds.length ≤ lim then runComp b c f (capR cap ρ) ds else none
def Fresh (b : FB) (cap : List (Option Nat)) : Prop := ∀ ρ d ρ', b d (capR cap ρ) = some ρ' → Sub (capR cap ρ) ρ' ∧ NoOwn ρ'
section
variable {X : Cx}
theorem pifs_imp {ifs : List Expr} {t t' : TT} (h : PIfs X ifs t) (i : ∀ σ H Q, t' σ H Q → t σ H Q) : PIfs X ifs t' := fun pins s σ H Q I q => h pins s σ H Q I (i σ H Q q)
theorem cd_nil : PIfs X [] (tDT X.K cTrue) := pifs_imp pifs_nil fun σ H Q ⟨F0, H0, F, ρ, b, r, hf, q⟩ => by cases hf; exact q F H (.refl r.fh)
theorem cd_one {c : Expr} {t : FT} (h : PT X c (tDT X.K t)) : PIfs X [c] (tDT X.K t) := pifs_one h
theorem comp_D {K : Frag} {it : FA} {cap : List (Option Nat)} {b : FB} {c : FT} {f : FE} {σ : St} {H : Hp} {Q : VK} (fr : Fresh b cap) (h : tL K (lComp it cap b c f) σ H Q) : tComp (tDI K it) cap (tDG K b) (tDT K c) (tD K f) σ H Q := by
  obtain ⟨F0, H0, F, ρ, zs, r, hf, q⟩ := h
  obtain ⟨ds, h1, h2⟩ := Option.bind_eq_some_iff.mp hf
  have hlim : ds.length ≤ lim := Decidable.byContradiction fun z => by rw [if_neg z] at h2; cases h2
  rw [if_pos hlim] at h2
  refine ⟨F0, H0, F, ρ, ds, r, h1, fun J F1 H1 g1 itd p hp => ?_⟩
  have rc := rs_cap cap (r.grow g1)
  have hF1 : F1 p = none := g1.fh.free hp
  refine ⟨fun i m σ H => m = ds.length - i ∧ i ≤ ds.length ∧ ∃ F' xs ys us, Same F1 F' ∧ RS K F1 H1 F' H σ (capR cap ρ) ∧ H p = some (.lst xs) ∧ F' p = none ∧ RepL K F' ys xs ∧ runComp b c f (capR cap ρ) (ds.drop i) = some us ∧ ys ++ us = zs ∧ ys.length ≤ i,
    ⟨ds.length, by simp, Nat.zero_le _, F1, [], [], zs, .refl _, rc.other (noOwn_cap cap ρ) hF1 hp (.inl hp), upd_same, hF1, .nil, by simpa using h2, rfl, Nat.le_refl _⟩, ?_⟩
  rintro i m σ' H' ⟨rfl, hi, F', xs, ys, us, s1, r1, hl, hn, ry, h3, h4, hyi⟩
  by_cases hlt : i < ds.length
  · have hd : ds.drop i = ds[i] :: ds.drop (i + 1) := List.drop_eq_getElem_cons hlt
    rw [hd] at h3
    obtain ⟨ρ1, h5, h3⟩ := Option.bind_eq_some_iff.mp h3
    obtain ⟨t, h6, h3⟩ := Option.bind_eq_some_iff.mp h3
    obtain ⟨sb, no1⟩ := fr ρ _ _ h5
    refine .inr ⟨itd.go i F' H' s1 r1.fh hlt, fun x H'' y => ?_⟩
    obtain ⟨F2, g2, r2⟩ := itd.yld i ds[i] F' H' x H'' s1 r1.fh (by simp [hlt]) y
    refine ⟨F1, H1, F2, capR cap ρ, ds[i], ρ1, r1.grow g2, r2, h5, fun σ2 r3 => ⟨F1, H1, F2, ρ1, t, r3, h6, fun F3 H3 g3 => ?_⟩⟩
    have r4 := r3.grow g3
    have hl2 := g2.hh.lst _ _ hl
    have hn2 := grow_none g2 hn hl
    have hl3 := g3.hh.lst _ _ hl2
    have hn3 := grow_none g3 hn2 hl2
    cases t with
    | false =>
      rw [if_neg Bool.false_ne_true] at h3
      exact iteF ⟨ds.length - (i + 1), by lia, rfl, hlt, F3, xs, ys, us, (s1.trans g2.ff).trans g3.ff, r4.weak sb, hl3, hn3, ry.mono (g2.ff.trans g3.ff), h3, h4, Nat.le_succ_of_le hyi⟩
    | true =>
      rw [if_pos rfl] at h3
      obtain ⟨yd, h7, h3⟩ := Option.bind_eq_some_iff.mp h3
      obtain ⟨us', h8, h9⟩ := Option.map_eq_some_iff.mp h3
      refine iteT ⟨F1, H1, F3, ρ1, yd, r4, h7, fun v F4 H4 g4 r5 => ?_⟩
      have hl4 := g4.hh.lst _ _ hl3
      have hn4 := grow_none g4 hn3 hl3
      have ss : Same F' F4 := (g2.ff.trans g3.ff).trans g4.ff
      refine ⟨xs, hl4, lim_size' (by have := ry.length; lia), ds.length - (i + 1), by lia, rfl, hlt, F4, xs ++ [v], ys ++ [yd], us', (s1.trans ss), ?_, upd_same, hn4, (ry.mono ss).append (.cons r5 .nil), h8, ?_, ?_⟩
      · exact ((r4.grow g4).weak sb).other (noOwn_cap cap ρ) hn4 hp (.inr ⟨_, hl4⟩)
      · rw [List.append_assoc, List.singleton_append, h9]; exact h4
      · rw [List.length_append, List.length_singleton]; lia
  · have e : i = ds.length := by lia
    subst e
    rw [List.drop_length] at h3
    cases h3
    rw [List.append_nil] at h4
    subst h4
    have gg : Grow F1 H1 F' H' := r1.g
    exact .inl ⟨itd.stop _ F' H' s1 r1.fh (Nat.le_refl _), q p xs F' H' (g1.trans gg) hn (g1.hh.free hp) hl ry⟩
variable {N' : List Str} {scope : Scope} {cap : List (Option Nat)} {tg iter elt : Expr} {ifs : List Expr} {it : FA} {b : FB} {c : FT} {f : FE} {pos : Pos}
theorem ld_comp (hc : X.calm = true) (co : CapOk X N' scope cap) (fr : Fresh b cap) (hi : PI X tg iter (tDI X.K it))
    (hg : ∀ cl C s₀ H₀ fp, PG (cxComp X N' scope cl C s₀ H₀ fp) tg (tDG X.K b)) (hcs : ∀ cl C s₀ H₀ fp, PIfs (cxComp X N' scope cl C s₀ H₀ fp) ifs (tDT X.K c)) (he : ∀ cl C s₀ H₀ fp, PE (cxComp X N' scope cl C s₀ H₀ fp) elt (tD X.K f))
    (hs : ∀ x, foldedSetIterable iter X.env x = pure x := by intro _; rfl) : PE X (.ListComp elt [⟨tg, iter, ifs, 0⟩] scope pos) (tL X.K (lComp it cap b c f)) :=
  pe_imp (pe_comp hc co hi hg hcs he hs) fun σ H Q h => comp_D fr h
theorem sd_comp {i : Nat} {x : Str} {px pe : Pos} (hc : X.calm = true) (hN : X.N.Nodup) (hx0 : X.N[i]? = some x) (hx : X.env.scope.names.lookup x = some .local) (co : CapOk X N' scope cap) (fr : Fresh b cap) (hi : PI X tg iter (tDI X.K it))
    (hg : ∀ cl C s₀ H₀ fp, PG (cxComp X N' scope cl C s₀ H₀ fp) tg (tDG X.K b)) (hcs : ∀ cl C s₀ H₀ fp, PIfs (cxComp X N' scope cl C s₀ H₀ fp) ifs (tDT X.K c)) (he : ∀ cl C s₀ H₀ fp, PE (cxComp X N' scope cl C s₀ H₀ fp) elt (tD X.K f))
    (hsw : swapsWith (.ListComp elt [⟨tg, iter, ifs, 0⟩] scope pe) (some (.Name x px)) pos.line X.env = pure true := by rfl)
    (hs : ∀ x, foldedSetIterable iter X.env x = pure x := by intro _; rfl) : PS X (.Assign [.Name x px] (.ListComp elt [⟨tg, iter, ifs, 0⟩] scope pe) pos) (tDS X.K (sOwn i (lComp it cap b c f))) :=
  ps_imp (ps_setComp hc hN hx0 hx co hi hg hcs he hsw hs) fun D σ H h => comp_D fr (asg_L h)
end
theorem cap_none {cap : List (Option Nat)} {ρ : Rho} {i : Nat} (h : cap[i]? = some none) : (capR cap ρ)[i]? = some none := by
  unfold capR; rw [List.getElem?_map, h]; rfl
theorem set_sub {ρ ρ' : Rho} {i : Nat} {b : Option B} (s : Sub ρ ρ') (h : ρ[i]? = some none) : Sub ρ (ρ'.set i b) :=
  ⟨by rw [List.length_set]; exact s.len, fun j c e => by
    by_cases q : j = i
    · subst q; rw [h] at e; cases e
    · rw [List.getElem?_set_ne (Ne.symm q)]; exact s.sub j c e⟩
theorem noOwn_set {ρ : Rho} {i : Nat} {d : D} (h : NoOwn ρ) : NoOwn (ρ.set i (some (.fz d))) := fun j ds e => by
  by_cases q : j = i
  · subst q
    obtain ⟨z, _⟩ := get_set_eq e
    cases z
  · rw [List.getElem?_set_ne (Ne.symm q)] at e; exact h j ds e
theorem Sub.refl (ρ : Rho) : Sub ρ ρ := ⟨rfl, fun _ _ h => h⟩
theorem fresh_name {cap : List (Option Nat)} {i : Nat} (h : cap[i]? = some none) : Fresh (bN i) cap := fun ρ d ρ' e => by
  cases e
  exact ⟨set_sub (.refl _) (cap_none h), noOwn_set (noOwn_cap cap ρ)⟩
def FreshS (bs : FBs) (cap : List (Option Nat)) : Prop := ∀ ρ ds ρ1 ρ', Sub (capR cap ρ) ρ1 → NoOwn ρ1 → bs ds ρ1 = some ρ' → Sub (capR cap ρ) ρ' ∧ NoOwn ρ'
theorem freshS_nil {cap : List (Option Nat)} : FreshS bNil cap := fun ρ ds ρ1 ρ' s n e => by
  unfold bNil at e
  split at e
  · cases e; exact ⟨s, n⟩
  · cases e
theorem freshS_cons {cap : List (Option Nat)} {i : Nat} {bs : FBs} (h : cap[i]? = some none) (t : FreshS bs cap) : FreshS (bCons (bN i) bs) cap := fun ρ ds ρ1 ρ' s n e => by
  cases ds with
  | nil => cases e
  | cons d ds => exact t ρ ds _ ρ' (set_sub s (cap_none h)) (noOwn_set n) e
theorem fresh_tup {cap : List (Option Nat)} {n : Nat} {bs : FBs} (t : FreshS bs cap) : Fresh (bTup n bs) cap := fun ρ d ρ' e => by
  cases d <;> simp only [bTup] at e <;> first | (cases e; done) | skip
  split at e
  · exact t ρ _ _ ρ' (.refl _) (noOwn_cap cap ρ) e
  · cases e
def capB (outer : List (Str × NameKind)) (N N' : List Str) (scope : Scope) (cap : List (Option Nat)) : Bool :=
  scope.names.all (fun y => !(y.2 == .cell)) && (scope.names.all (fun y => !(y.2 == .local) || (scope.names.lookup y.1 == some .local)) && (scope.names.all (fun y => !(y.2 == .free) || (outer.lookup y.1 == some .cell) || (outer.lookup y.1 == some .free)) &&
    (cap.length == N'.length && (List.range cap.length).all fun i => match (cap[i]?).join with
      | none => true
      | some j => match N'[i]? with
        | none => false
        | some x => N[j]? == some x && scope.names.lookup x == some .free)))
theorem capOk_of {X : Cx} {N' : List Str} {scope : Scope} {cap : List (Option Nat)} (hk : scope.kind = .function) (h : capB X.env.scope.names X.N N' scope cap = true) : CapOk X N' scope cap := by
  unfold capB at h
  simp only [Bool.and_eq_true, List.all_eq_true] at h
  obtain ⟨h1, h2, h3, h4, h5⟩ := h
  refine ⟨hk, fun y hy e => ?_, fun y hy e => ?_, fun y hy e => ?_, by simpa using h4, fun i j e => ?_⟩
  · have := h1 y hy; rw [e] at this; cases this
  · have := h2 y hy; rw [e] at this; simpa using this
  · have := h3 y hy
    rw [e] at this
    simp only [beq_self_eq_true, Bool.not_true, Bool.false_or, Bool.or_eq_true, beq_iff_eq] at this
    exact this
  · have hi : i < cap.length := (List.getElem?_eq_some_iff.mp e).1
    have := h5 i (List.mem_range.mpr hi)
    rw [e] at this
    simp only [Option.join_some] at this
    split at this
    · cases this
    · rename_i x hx
      simp only [Bool.and_eq_true, beq_iff_eq] at this
      exact ⟨x, hx, this.1, this.2⟩
end DL
set_option maxRecDepth 100000
set_option maxHeartbeats 4000000
namespace DL
open PySem PySem.Spec PyProof.Rows L2
variable [Lam]
section
variable {X : Cx} {e : Expr} {es : List Expr} {pos : Pos} {f g : FE} {fa : FA}
inductive Ty where
  | int | bool | tuple | list | str | dict
def Ty.name : Ty → String
  | .int => "int" | .bool => "bool" | .tuple => "tuple" | .list => "list" | .str => "str" | .dict => "dict"
def isiD : Ty → D → Bool
  | .int, .int _ => true
  | .int, .bl _ => true
  | .bool, .bl _ => true
  | .tuple, .tup _ => true
  | .list, .lst _ => true
  | .str, .str _ => true
  | .dict, .dct _ _ => true
  | .dict, .dtt _ _ => true
  | _, _ => false
theorem isi_none {prog : Program} {w : World} {A : Around} {E : Value → Shared → Prop} {s : Shared} {Q : Value → Shared → Prop} {K : Frag} {T : String} {b : Bool} (hk : K.In s.heap) (h : ∀ tk, Q (.bool b) { s with toks := tk }) (hT : PySem.W.kitOne K (.type "NoneType") (.type T) = some b) :
    wpAny (model prog w) A (call (.builtin "isinstance") [.none, .type T]) Q E s := PySem.W.kia_one PySem.W.kitx_none hk True.intro hT (fun z => nomatch z) h
theorem call_isi (T : Ty) : CallR X (.builtin "isinstance") (fun xs H Q => ∃ x F d, xs = [x, .ty T.name] ∧ Same F H ∧ Rep X.K F d x ∧ Q (.bl (isiD T d)) H) := by
  intro pins s σ H xs us Q I r h
  obtain ⟨x, F, d, rfl, fh, rd, q⟩ := h
  obtain ⟨u, w', rfl, rx, rt⟩ := r.two
  obtain rfl : w' = Value.type T.name := rt
  have fin : ∀ {b : Bool}, Q (.bl b) H → EP X pins σ Q (.bool b) s := fun q => ⟨.bl _, H, I, rfl, q⟩
  have fin1 : ∀ {b : Bool}, Q (.bl b) H → EP X pins σ Q (.bool b) { s with toks := s.toks + 1 } := fun q => ⟨.bl _, H, I.tok _, rfl, q⟩
  cases d with
  | non =>
    cases rep_non.mp rd
    cases rx
    cases T <;> exact isi_none I.kIn (fun tk => ⟨.bl _, H, I.tok _, rfl, q⟩) (by rfl)
  | bl b =>
    cases rep_bl.mp rd
    cases rx
    cases T
    · exact IsiPair.bool_int (fin q)
    · exact IsiPair.bool_bool (fin q)
    · exact IsiPair.bool_tuple (fin1 q)
    · exact IsiPair.bool_list (fin1 q)
    · exact IsiPair.bool_str (fin1 q)
    · exact IsiPair.bool_dict (fin1 q)
  | int i =>
    cases rep_int.mp rd
    obtain ⟨t, rfl⟩ := rx
    cases T
    · exact IsiPair.int_int (fin q)
    · exact IsiPair.int_bool (fin1 q)
    · exact IsiPair.int_tuple (fin1 q)
    · exact IsiPair.int_list (fin1 q)
    · exact IsiPair.int_str (fin1 q)
    · exact IsiPair.int_dict (fin1 q)
  | str z =>
    cases rep_str.mp rd
    obtain ⟨t, rfl⟩ := rx
    cases T
    · exact IsiPair.str_int (fin1 q)
    · exact IsiPair.str_bool (fin1 q)
    · exact IsiPair.str_tuple (fin1 q)
    · exact IsiPair.str_list (fin1 q)
    · exact IsiPair.str_str (fin q)
    · exact IsiPair.str_dict (fin1 q)
  | tup ds =>
    obtain ⟨a, ys, rfl, h1, h2⟩ := rep_tup.mp rd
    cases rx
    obtain ⟨its, _, ⟨o, ho, hc, _⟩, _⟩ := I.tuple (same_seqT fh h1)
    cases T
    · exact IsiPair.tuple_int ho hc (fin1 q)
    · exact IsiPair.tuple_bool ho hc (fin1 q)
    · exact IsiPair.tuple_tuple ho hc (fin q)
    · exact IsiPair.tuple_list ho hc (fin1 q)
    · exact IsiPair.tuple_str ho hc (fin1 q)
    · exact IsiPair.tuple_dict ho hc (fin1 q)
  | lst ds =>
    obtain ⟨a, ys, rfl, h1, h2⟩ := rep_lst.mp rd
    cases rx
    obtain ⟨its, _, ⟨o, n, ho, hc, _⟩, _⟩ := I.list (fh.seq h1)
    cases T
    · exact IsiPair.list_int ho hc (fin1 q)
    · exact IsiPair.list_bool ho hc (fin1 q)
    · exact IsiPair.list_tuple ho hc (fin1 q)
    · exact IsiPair.list_list ho hc (fin q)
    · exact IsiPair.list_str ho hc (fin1 q)
    · exact IsiPair.list_dict ho hc (fin1 q)
  | dct ks vs =>
    obtain ⟨a, ys, rfl, h1, h2, h3⟩ := rep_dct.mp rd
    cases rx
    obtain ⟨_, _, vs', _, o, es', ep, ho, hc, _⟩ := (show ObjOk X.prog X.w H s.heap a _ from I.hok a _ (fh _ _ h1))
    cases T
    · exact IsiPair.dict_int ho hc.1 (fin1 q)
    · exact IsiPair.dict_bool ho hc.1 (fin1 q)
    · exact IsiPair.dict_tuple ho hc.1 (fin1 q)
    · exact IsiPair.dict_list ho hc.1 (fin1 q)
    · exact IsiPair.dict_str ho hc.1 (fin1 q)
    · exact IsiPair.dict_dict ho hc.1 (fin q)
  | dtt ks vs =>
    obtain ⟨a, xs', ys, rfl, h1, _⟩ := rep_dtt.mp rd
    cases rx
    obtain ⟨⟨o, es', ep, ho, hc, _⟩, _, _⟩ := (show ObjOk X.prog X.w H s.heap a _ from I.hok a _ (fh _ _ h1))
    cases T
    · exact IsiPair.dict_int ho hc.1 (fin1 q)
    · exact IsiPair.dict_bool ho hc.1 (fin1 q)
    · exact IsiPair.dict_tuple ho hc.1 (fin1 q)
    · exact IsiPair.dict_list ho hc.1 (fin1 q)
    · exact IsiPair.dict_str ho hc.1 (fin1 q)
    · exact IsiPair.dict_dict ho hc.1 (fin q)
  | obj x =>
    obtain ⟨a, dx, C, rfl, h1, _, c1, c2, c3, c4, c5, c6, c7⟩ := rep_obj.mp rd
    cases rx
    obtain ⟨mA, O, _⟩ := ins_get I.hok (fh _ _ h1)
    obtain ⟨od, J, _⟩ := O.look
    cases T <;> exact PySem.W.kia_one (PySem.W.kitx_own c1 c2 c3 c4 c5 c6) I.kIn J (c7 _ (by decide)) (fun z => nomatch z) (fun tk => ⟨.bl _, H, I.tok _, rfl, q⟩)
def eIsi (T : Ty) (f : FE) : FE := fun ρ => (f ρ).map fun d => .bl (isiD T d)
theorem boot_isi : bootBuiltins "isinstance" = some (.builtin "isinstance") := by decide +kernel
theorem pd_isi {x : Str} {p px : Pos} (T : Ty) (hg : Gl X "isinstance") (hm : X.mg "isinstance" = none) (hgT : Gl X x) (hmT : X.mg x = none) (hvT : bootBuiltins x = some (.type T.name)) (ha : PE X e (tD X.K f))
    (hnT : x ≠ "__name__" := by decide) (hdT : (x == ("__debug__" : Str)) = false := by decide) (he2 : starEach [e, .Name x px] X.env = (false, eval e X.env) :: starEach [.Name x px] X.env := by rfl) :
    PE X (.Call (.Name "isinstance" p) [e, .Name x px] [] pos) (tD X.K (eIsi T f)) :=
  pe_imp (pe_callB (call_isi T) hg hm boot_isi (pa_cons ha (pa_cons (pe_bltn (v := .ty T.name) hgT hmT hvT rfl hnT hdT) pa_nil) he2) (by decide) (by decide) he2 rfl) fun σ H Q ⟨F0, H0, F, ρ, d, r, hf, q⟩ => by
    obtain ⟨d', h1, h2⟩ := Option.map_eq_some_iff.mp hf
    subst h2
    exact ⟨F0, H0, F, ρ, d', r, h1, fun v F' H' g' r' => ⟨v, F', d', rfl, g'.fh, r', q _ F' H' g' (rep_bl.mpr rfl)⟩⟩
def intsD : List D → Option (List Int)
  | [] => some []
  | .int i :: r => (intsD r).map fun is => i :: is
  | _ :: _ => none
theorem intsD_some : ∀ {ds : List D} {ns : List Int}, intsD ds = some ns → ds = ns.map D.int
  | [], ns, h => by cases h; rfl
  | d :: r, ns, h => by
    cases d <;> simp only [intsD] at h <;> first | (cases h; done) | skip
    obtain ⟨is, h1, h2⟩ := Option.map_eq_some_iff.mp h
    subst h2
    rw [intsD_some h1]; rfl
omit [Lam] in
theorem intsD_map : ∀ (ns : List Int), intsD (ns.map D.int) = some ns
  | [] => rfl
  | n :: r => by simp only [List.map_cons, intsD, intsD_map r, Option.map_some]
def o1L (z : List D → Option D) : List D → Option D
  | [.lst ds] => z ds
  | _ => none
theorem o1L_some {z : List D → Option D} {es : List D} {d : D} (h : o1L z es = some d) : ∃ ds, es = [.lst ds] ∧ z ds = some d := by
  unfold o1L at h
  split at h
  · exact ⟨_, rfl, h⟩
  · cases h
theorem rep1 {K : Frag} {F : Hp} {d : D} {xs : List V} (h : RepL K F [d] xs) : ∃ x, xs = [x] ∧ Rep K F d x := by
  obtain ⟨x, r, rfl, h1, h2⟩ := h.cons_inv
  cases h2.nil_inv
  exact ⟨x, rfl, h1⟩
abbrev oSum : List D → Option D := o1L fun ds => (intsD ds).map fun ns => .int ns.sum
theorem cd_sum (hc : X.calm = true) : CallR X (.builtin "sum") (rC X.K oSum) := by
  intro pins s σ H xs us Q I r h
  obtain ⟨F, ds, d, fh, rl, ho, q⟩ := h
  obtain ⟨es, rfl, h1⟩ := o1L_some ho
  obtain ⟨ns, h2, h3⟩ := Option.map_eq_some_iff.mp h1
  subst h3
  cases intsD_some h2
  obtain ⟨x, rfl, rx⟩ := rep1 rl
  obtain ⟨u, rfl, ru⟩ := r.one
  obtain ⟨a, ys, rfl, k1, k2⟩ := rep_lst.mp rx
  cases ru
  cases RepL.ints.mp k2
  obtain ⟨its, rv, pl, _⟩ := I.list (fh.seq k1)
  have hi := intsAre_of rv
  obtain ⟨zs, hz⟩ := hi.allInts.items
  have hl : s.heap.IsList a (intItems zs) := hz ▸ pl.isList
  refine sum_intListG (I.ok.hd hc) hl fun h' tk t' hk => ?_
  have e1 : ns = zs.toList.map (·.1) := by
    rw [← nums_intItems, ← hz]
    exact (show numsOf its.toArray.toList = ns from hi.numsOf).symm
  have e2 : preSum (numAt zs) zs.size = ns.sum := by
    rw [preSum_eq, List.take_of_length_le (by simp), e1]
  rw [e2]
  exact ⟨.int ns.sum, H, I.kept hk, ⟨_, rfl⟩, q _ F H (.refl fh) (rep_int.mpr rfl)⟩
theorem boot_sum : bootBuiltins "sum" = some (.builtin "sum") := by decide +kernel
theorem boot_max : bootBuiltins "max" = some (.builtin "max") := by decide +kernel
theorem boot_len' : bootBuiltins "len" = some (.builtin "len") := by decide +kernel
theorem boot_tuple : bootBuiltins "tuple" = some (.type "tuple") := by decide +kernel
theorem boot_int : bootBuiltins "int" = some (.type "int") := by decide +kernel
theorem boot_bool : bootBuiltins "bool" = some (.type "bool") := by decide +kernel
def o2I (z : Int → Int → Int) : List D → Option D
  | [.int i, .int j] => some (.int (z i j))
  | _ => none
theorem o2I_some {z : Int → Int → Int} {es : List D} {d : D} (h : o2I z es = some d) : ∃ i j, es = [.int i, .int j] ∧ d = .int (z i j) := by
  unfold o2I at h
  split at h
  · cases h; exact ⟨_, _, rfl, rfl⟩
  · cases h
theorem rep2I {K : Frag} {F : Hp} {i j : Int} {xs : List V} (h : RepL K F [.int i, .int j] xs) : xs = [.int i, .int j] := RepL.ints (ns := [i, j]).mp h
abbrev oMax := o2I fun i j => if j > i then j else i
theorem cd_max (hc : X.calm = true) : CallR X (.builtin "max") (rC X.K oMax) := callR_imp (call_max2 hc) fun xs H Q ⟨F, ds, d, fh, rl, ho, q⟩ => by
  obtain ⟨i, j, rfl, rfl⟩ := o2I_some ho
  exact ⟨i, j, rep2I rl, q _ F H (.refl fh) (rep_int.mpr rfl)⟩
def oLen : List D → Option D
  | [.tup ds] => some (.int ds.length)
  | [.lst ds] => some (.int ds.length)
  | [.str x] => if x.length ≤ lim then some (.int x.length) else none
  | _ => none
theorem cd_len : CallR X (.builtin "len") (rC X.K oLen) := callR_imp call_len fun xs H Q ⟨F, ds, d, fh, rl, ho, q⟩ => by
  unfold oLen at ho
  split at ho
  · cases ho
    obtain ⟨x, rfl, rx⟩ := rep1 rl
    obtain ⟨a, ys, rfl, k1, k2⟩ := rep_tup.mp rx
    exact ⟨_, ys.length, rfl, .inr ⟨ys, same_seqT fh k1, rfl⟩, by rw [← k2.length]; exact q _ F H (.refl fh) (rep_int.mpr rfl)⟩
  · cases ho
    obtain ⟨x, rfl, rx⟩ := rep1 rl
    obtain ⟨a, ys, rfl, k1, k2⟩ := rep_lst.mp rx
    exact ⟨_, ys.length, rfl, .inl ⟨ys, fh.seq k1, rfl⟩, by rw [← k2.length]; exact q _ F H (.refl fh) (rep_int.mpr rfl)⟩
  · split at ho
    · rename_i z
      cases ho
      obtain ⟨x, rfl, rx⟩ := rep1 rl
      cases rep_str.mp rx
      exact ⟨_, _, rfl, ⟨lim_size z, rfl⟩, q _ F H (.refl fh) (rep_int.mpr rfl)⟩
    · cases ho
  · cases ho
def oTuple : List D → Option D
  | [.tup ds] => some (.tup ds)
  | [.lst ds] => some (.tup ds)
  | _ => none
theorem cd_tuple : CallR X (.type "tuple") (rC X.K oTuple) := callR_imp call_tuple_of fun xs H Q ⟨F, ds, d, fh, rl, ho, q⟩ => by
  unfold oTuple at ho
  split at ho
  · cases ho
    obtain ⟨x, rfl, rx⟩ := rep1 rl
    obtain ⟨a, ys, rfl, k1, k2⟩ := rep_tup.mp rx
    exact ⟨a, ys, rfl, .inr ⟨same_seqT fh k1, q _ F H (.refl fh) rx⟩⟩
  · cases ho
    obtain ⟨x, rfl, rx⟩ := rep1 rl
    obtain ⟨a, ys, rfl, k1, k2⟩ := rep_lst.mp rx
    refine ⟨a, ys, rfl, .inl ⟨fh.seq k1, fun l hl => ?_⟩⟩
    have gn : Grow F H (upd F l (.tup ys)) (upd H l (.tup ys)) := Grow.new fh hl
    exact q _ _ _ gn (rep_tup.mpr ⟨l, ys, rfl, SqT.of upd_same, k2.mono gn.ff⟩)
  · cases ho
def rCL (K : Frag) (op : List D → Option (List D)) : List V → Hp → VK → Prop := fun xs H Q => ∃ F ds es, Same F H ∧ RepL K F ds xs ∧ op ds = some es ∧ ∀ a ys F' H', Grow F H F' H' → F' a = none → H a = none → H' a = some (.lst ys) → RepL K F' es ys → Q (.ref a) H'
def lCall (op : List D → Option (List D)) (fa : FA) : FA := fun ρ => (fa ρ).bind op
theorem args_CL {K : Frag} {op : List D → Option (List D)} {σ : St} {H : Hp} {Q : VK} (h : tL K (lCall op fa) σ H Q) : tDA K fa σ H fun vs H1 => rCL K op vs H1 Q := by
  obtain ⟨F0, H0, F, ρ, d, r, hf, q⟩ := h
  obtain ⟨ds, h1, h2⟩ := Option.bind_eq_some_iff.mp hf
  exact ⟨F0, H0, F, ρ, ds, r, h1, fun vs F1 H1 g1 r1 => ⟨F1, ds, d, g1.fh, r1, h2, fun a ys F2 H2 g2 k1 k2 k3 k4 => q a ys F2 H2 (g1.trans g2) k1 (g1.hh.free k2) k3 k4⟩⟩
theorem ld_callB {x : Str} {p : Pos} {id : String} {op : List D → Option (List D)} (hc : CallR X (.builtin id) (rCL X.K op)) (hg : Gl X x) (hm : X.mg x = none) (hv : bootBuiltins x = some (.builtin id)) (ha : PA X (e :: es) (tDA X.K fa))
    (hn : x ≠ "__name__" := by decide) (hdb : (x == ("__debug__" : Str)) = false := by decide)
    (he : starEach (e :: es) X.env = (false, eval e X.env) :: starEach es X.env := by rfl) (hpl : (backTo pos (starEach es X.env)).any (·.1) = false := by rfl) : PE X (.Call (.Name x p) (e :: es) [] pos) (tL X.K (lCall op fa)) :=
  pe_imp (pe_callB hc hg hm hv ha hn hdb he hpl) fun σ H Q h => args_CL h
theorem atI_rep {K : Frag} {H : Hp} {ds : List D} {xs : List V} {i : Int} {d : D} (h : RepL K H ds xs) (e : atI ds i = some d) : ∃ x, atI xs i = some x ∧ Rep K H d x := by
  unfold atI at e ⊢
  rw [← h.length]
  cases q : ixN ds.length i with
  | none => rw [q] at e; cases e
  | some j =>
    rw [q] at e
    exact h.get e
def oIx : D → D → Option D
  | .tup ds, .int i => atI ds i
  | .lst ds, .int i => atI ds i
  | _, _ => none
theorem pd_ix {a b : Expr} (ha : PE X a (tD X.K f)) (hb : PE X b (tD X.K g)) (hs : PlainIx b := by intro _ _; rfl) : PE X (.Subscript a b pos) (tD X.K (eOp oIx f g)) := pe_imp (pe_ix ix_seq ha hb hs) fun σ H Q h => by
  have h' := two h
  obtain ⟨F0, H0, F, ρ, d, r, hf, q⟩ := h'
  refine ⟨F0, H0, F, ρ, d, r, hf, fun v F1 H1 g1 r1 => ?_⟩
  obtain ⟨F0', H0', F', ρ', d', r', hf', q'⟩ := q v F1 H1 g1 r1
  refine ⟨F0', H0', F', ρ', d', r', hf', fun v2 F2 H2 g2 r2 => ?_⟩
  obtain ⟨F3, d1, d2, d3, fh, k1, k2, k3, k4⟩ := q' v2 F2 H2 g2 r2
  unfold oIx at k3
  split at k3
  · obtain ⟨p, ys, rfl, z1, z2⟩ := rep_tup.mp k1
    obtain ⟨y, z3, z4⟩ := atI_rep z2 k3
    exact .inr (.inl ⟨p, ys, _, y, rfl, rep_int.mp k2, same_seqT fh z1, z3, k4 y F3 H2 (.refl fh) z4⟩)
  · obtain ⟨p, ys, rfl, z1, z2⟩ := rep_lst.mp k1
    obtain ⟨y, z3, z4⟩ := atI_rep z2 k3
    exact .inl ⟨p, ys, _, y, rfl, rep_int.mp k2, fh.seq z1, z3, k4 y F3 H2 (.refl fh) z4⟩
  · cases k3
def eUn (o : D → Option D) (f : FE) : FE := fun ρ => (f ρ).bind o
end
end DL
set_option maxRecDepth 100000
set_option maxHeartbeats 4000000
namespace DL
open PySem PySem.Spec PyProof.Rows L2
variable [Lam]
section
variable {prog : Program} {w : World} {A : Around} {E : Value → Shared → Prop} {s : Shared}
theorem getItem_whole {t sl : Addr} {items : Array Value} {vl vu : Value} {lo hi : Option Int} {Q : Value → Shared → Prop} (ht : IsTup s.heap t items) (hs : s.heap.IsSliceOf sl vl vu .none)
    (pl : IsPart vl lo) (pu : IsPart vu hi) (w1 : HT.sIx items.size 0 lo = 0) (w2 : HT.sIx items.size items.size hi = items.size) (h : Q (.ref t) s) :
    wpAny (model prog w) A (getItem (.ref t) (.ref sl)) Q E s := by
  obtain ⟨os, hos, hcs, hds⟩ := id hs
  have hTs : s.TypeIs (.ref sl) "slice" := ⟨os, hos, hcs⟩
  unfold getItem
  try with_reducible refine wpAny_holding ?_
  first | refine wpAny_bind (wpAny_pure ?_) | skip
  refine wpAny_bind (wpAny_sequenceKey ht.typeIs (by decide) (wpAny_bind (wpAny_callSpecial?_slot (name := Str.ofString "__getitem__") ht.typeIs PyProof.Rows.slot_tuple_getitem
    (wpAny_call_entry PyProof.Rows.slot_tuple_getitem ht.typeIs entry_tuple_getitem ?_ (args_tuple_getitem _ _)))))
  show wpAny _ _ (Builtin.Tuple.tupleItemsOf (.ref t) >>= _) _ _ s
  refine wpAny_bind (tupleItemsOf_ ht (wpAny_bind (wpAny_typeOf hTs ?_)))
  rw [if_pos (by decide)]
  refine wpAny_bind (HT.sliceApplied_gen hs pl pu ?_)
  rw [w1, w2]
  show wpAny _ _ (if (((0 : Nat) : Int) == 0 && (1 : Int) == 1 && (items.size - 0) == items.size) = true then _ else _) _ _ s
  rw [if_pos (by simp)]
  refine wpAny_bind ?_
  unfold Builtin.Tuple.tupleIsExact
  refine wpAny_bind (wpAny_typeOf ht.typeIs (wpAny_pure ?_))
  first
    | rw [if_pos (by decide)]
    | skip
  first
    | exact wpAny_bind (wpAny_rule (wpAny_bind (wpAny_pure (wpAny_pure ⟨_, rfl, wpAny_pure h⟩))))
    | exact wpAny_bind (wpAny_rule (wpAny_pure ⟨_, rfl, wpAny_pure h⟩))
    | exact wpAny_bind (wpAny_bind (wpAny_rule (wpAny_pure (wpAny_pure ⟨_, rfl, wpAny_pure h⟩))))
end
section
variable {X : Cx} {e : Expr} {es : List Expr} {pos : Pos} {f g : FE} {fa : FA}
def rSlW (K : Frag) : V → Option Int → Option Int → Hp → VK → Prop := fun x lo hi H Q => ∃ a xs, x = .ref a ∧ SqT K H a xs ∧ HT.sIx xs.length 0 lo = 0 ∧ HT.sIx xs.length xs.length hi = xs.length ∧ Q (.ref a) H
theorem sl_whole : SlR X (rSlW X.K) := by
  intro pins s σ H x v vl vu lo hi sl Q I rx hs pl pu h
  obtain ⟨a, xs, rfl, hx, w1, w2, q⟩ := h
  cases rx
  obtain ⟨its, r, ht, hz⟩ := I.tuple hx
  have hlen : its.toArray.size = xs.length := by rw [List.size_toArray]; exact r.length.symm
  exact ⟨"tuple", _, PyProof.Rows.slot_tuple_getitem.lookup, ht.typeIs, getItem_whole ht hs pl pu (by rw [hlen]; exact w1) (by rw [hlen]; exact w2) ⟨.ref a, H, I, rfl, q⟩⟩
def cutD (ds : List D) (lo hi : Option Int) : List D := (ds.drop (HT.sIx ds.length 0 lo)).take (HT.sIx ds.length ds.length hi - HT.sIx ds.length 0 lo)
def oSl : D → Option Int → Option Int → Option D
  | .tup ds, lo, hi => some (.tup (cutD ds lo hi))
  | .lst ds, lo, hi => some (.lst (cutD ds lo hi))
  | _, _, _ => none
abbrev FO := Rho → Option (Option Int)
def oAt (f : FE) : FO := fun ρ => (f ρ).bind fun d => match d with
  | .int i => some (some i)
  | _ => none
def tDO (K : Frag) (f : FO) : TO := fun σ H Q => ∃ F0 H0 F ρ i, RS K F0 H0 F H σ ρ ∧ f ρ = some i ∧ ∀ F' H', Grow F H F' H' → Q i H'
theorem po_imp {o : Option Expr} {t t' : TO} (h : PO X o t) (i : ∀ σ H Q, t' σ H Q → t σ H Q) : PO X o t' := fun pins s σ H Q I q => h pins s σ H Q I (i σ H Q q)
theorem pod_some (h : PE X e (tD X.K f)) : PO X (some e) (tDO X.K (oAt f)) := po_imp (po_some h) fun σ H Q ⟨F0, H0, F, ρ, i, r, hf, q⟩ => by
  obtain ⟨d, h1, h2⟩ := Option.bind_eq_some_iff.mp hf
  cases d <;> simp only at h2 <;> first | (cases h2; done) | skip
  cases h2
  exact ⟨F0, H0, F, ρ, _, r, h1, fun v F' H' g' r' => ⟨_, rep_int.mp r', q F' H' g'⟩⟩
def eSl (f : FE) (lo hi : FO) : FE := fun ρ => (f ρ).bind fun d => (lo ρ).bind fun l => (hi ρ).bind fun h => oSl d l h
theorem pd_slice {a : Expr} {lo hi : Option Expr} {fl fh : FO} {p2 : Pos} (ha : PE X a (tD X.K f)) (hl : PO X lo (tDO X.K fl)) (hh : PO X hi (tDO X.K fh)) : PE X (.Subscript a (.Slice lo hi none p2) pos) (tD X.K (eSl f fl fh)) :=
  pe_imp (pe_slice (sl_list.or (sl_tup.or sl_whole)) ha hl hh) fun σ H Q ⟨F0, H0, F, ρ, d, r, hf, q⟩ => by
    obtain ⟨x, h1, hf⟩ := Option.bind_eq_some_iff.mp hf
    obtain ⟨l, h2, hf⟩ := Option.bind_eq_some_iff.mp hf
    obtain ⟨u, h3, h4⟩ := Option.bind_eq_some_iff.mp hf
    refine ⟨F0, H0, F, ρ, x, r, h1, fun v F1 H1 g1 r1 => ⟨F0, H0, F1, ρ, l, r.grow g1, h2, fun F2 H2 g2 => ⟨F0, H0, F2, ρ, u, (r.grow g1).grow g2, h3, fun F3 H3 g3 => ?_⟩⟩⟩
    have gg := g1.trans (g2.trans g3)
    have r3 : Rep X.K F3 x v := r1.mono (g2.ff.trans g3.ff)
    cases x with
    | tup ds =>
      cases h4
      obtain ⟨p, xs, rfl, k1, k2⟩ := rep_tup.mp r3
      have hlen := k2.length
      by_cases wh : HT.sIx xs.length 0 l = 0 ∧ HT.sIx xs.length xs.length u = xs.length
      · refine .inr (.inr ⟨p, xs, rfl, same_seqT g3.fh k1, wh.1, wh.2, q _ F3 H3 gg ?_⟩)
        have e : cutD ds l u = ds := by
          unfold cutD
          rw [hlen, wh.1, wh.2, List.drop_zero, Nat.sub_zero, ← hlen, List.take_length]
        rw [e]; exact r3
      · refine .inr (.inl ⟨p, xs, rfl, same_seqT g3.fh k1, wh, fun p' hp => ?_⟩)
        have gn : Grow F3 H3 (upd F3 p' (.tup (cutV xs l u))) (upd H3 p' (.tup (cutV xs l u))) := Grow.new g3.fh hp
        refine q _ _ _ (gg.trans gn) (rep_tup.mpr ⟨p', _, rfl, SqT.of upd_same, ?_⟩)
        unfold cutD cutV
        rw [hlen]
        exact ((k2.mono gn.ff).drop _).take _
    | lst ds =>
      cases h4
      obtain ⟨p, xs, rfl, k1, k2⟩ := rep_lst.mp r3
      have hlen := k2.length
      refine .inl ⟨p, xs, rfl, g3.fh.seq k1, fun p' hp => ?_⟩
      have gn : Grow F3 H3 (upd F3 p' (.lst (cutV xs l u))) (upd H3 p' (.lst (cutV xs l u))) := Grow.new g3.fh hp
      refine q _ _ _ (gg.trans gn) (rep_lst.mpr ⟨p', _, rfl, SqL.of upd_same, ?_⟩)
      unfold cutD cutV
      rw [hlen]
      exact ((k2.mono gn.ff).drop _).take _
    | _ => cases h4
def oCat : D → D → Option D
  | .tup xs, .tup ys => if xs.length + ys.length ≤ lim then some (.tup (xs ++ ys)) else none
  | .lst xs, .lst ys => if xs.length + ys.length ≤ lim then some (.lst (xs ++ ys)) else none
  | _, _ => none
theorem od_cat : OpR X (binaryOp .Add) (rD X.K oCat) := by
  intro pins s σ H x y v u Q I rx ry h
  obtain ⟨F, d1, d2, d, fh, r1, r2, ho, q⟩ := h
  unfold oCat at ho
  split at ho
  · rename_i ds es
    split at ho
    · rename_i hl
      cases ho
      obtain ⟨a, xs, rfl, k1, k2⟩ := rep_tup.mp r1
      obtain ⟨b, ys, rfl, k3, k4⟩ := rep_tup.mp r2
      by_cases hd : ds = []
      · subst hd
        cases k2.nil_inv
        cases rx
        cases ry
        obtain ⟨i1, v1, ⟨⟨c1, dd1, dt1, sl1⟩, o1, e1, n1, t1⟩, _⟩ := I.tuple (same_seqT fh k1)
        obtain ⟨i2, v2, ⟨⟨c2, dd2, dt2, sl2⟩, o2, e2, n2, t2⟩, _⟩ := I.tuple (same_seqT fh k3)
        simp only at e1 t1 e2 t2
        subst e1 t1 e2 t2
        cases v1
        exact concat_meets ⟨_, o1, rfl⟩ ⟨_, o2, rfl⟩ noFill_tuple_add seq_tuple_add PySem.F.slot_tuple_add PySem.F.entry_tuple_add (PySem.F.args_tuple_add_2 _ _)
          (tuple_addW0 a b #[] i2.toArray n1 n2 dd1 dd2 sl1 sl2 rfl) ⟨o1, o2, ⟨.ref b, H, I, rfl, q _ F H (.refl fh) (by simpa using r2)⟩⟩
      · refine op_catT pins s σ H _ _ v u Q I rx ry ⟨a, b, xs, ys, rfl, rfl, same_seqT fh k1, same_seqT fh k3, fun z => hd ?_, lim_size (by rw [← k2.length, ← k4.length]; exact hl), fun z => ?_, fun z p hp => ?_⟩
        · have := k2.length; rw [z] at this; exact List.eq_nil_of_length_eq_zero this
        · have e : es = [] := by have := k4.length; rw [z] at this; exact List.eq_nil_of_length_eq_zero this
          subst e
          rw [List.append_nil] at q
          exact q _ F H (.refl fh) r1
        · have gn : Grow F H (upd F p (.tup (xs ++ ys))) (upd H p (.tup (xs ++ ys))) := Grow.new fh hp
          exact q _ _ _ gn (rep_tup.mpr ⟨p, _, rfl, SqT.of upd_same, (k2.mono gn.ff).append (k4.mono gn.ff)⟩)
    · cases ho
  · rename_i ds es
    split at ho
    · rename_i hl
      cases ho
      obtain ⟨a, xs, rfl, k1, k2⟩ := rep_lst.mp r1
      obtain ⟨b, ys, rfl, k3, k4⟩ := rep_lst.mp r2
      cases rx
      cases ry
      obtain ⟨i1, v1, ⟨⟨c1, dd1, dt1, sl1⟩, n1, o1, e1, g1, t1⟩, _⟩ := I.list (fh.seq k1)
      obtain ⟨i2, v2, ⟨⟨c2, dd2, dt2, sl2⟩, n2, o2, e2, g2, t2⟩, _⟩ := I.list (fh.seq k3)
      simp only at e1 t1 e2 t2
      subst e1 t1 e2 t2
      have hz : xs.length + ys.length ≤ sizeLine := lim_size (by rw [← k2.length, ← k4.length]; exact hl)
      refine concat_meets ⟨_, o1, rfl⟩ ⟨_, o2, rfl⟩ noFill_list_add seq_list_add PySem.F.slot_list_add PySem.F.entry_list_add (PySem.F.args_list_add_2 _ _)
        (list_addW a b i1.toArray i2.toArray n1 n2 dd1 dd2 sl1 sl2 (by rw [List.size_toArray, List.size_toArray, ← v1.length, ← v2.length]; exact hz)) ⟨o1, o2, ?_⟩
      have ea : i1.toArray ++ i2.toArray = (i1 ++ i2).toArray := by simp
      rw [ea]
      have gn : Grow F H (upd F s.heap.objs.size (.lst (xs ++ ys))) (upd H s.heap.objs.size (.lst (xs ++ ys))) := Grow.new fh I.fresh
      exact ⟨.ref _, _, I.lnew (t' := s.toks) (v1.append v2) (by rw [List.length_append]; exact hz), rfl, q _ _ _ gn (rep_lst.mpr ⟨_, _, rfl, SqL.of upd_same, (k2.mono gn.ff).append (k4.mono gn.ff)⟩)⟩
    · cases ho
  · cases ho
abbrev oPlus : D → D → Option D := fun x y => (oAdd x y).or (oCat x y)
theorem od_plus : OpR X (binaryOp .Add) (rD X.K oPlus) := opR_or od_add od_cat
def flat (d : D) : Bool := (flD d).isSome
def eqF : D → D → Bool
  | .non, .non => true
  | .bl a, .bl b => a == b
  | .bl a, .int b => (if a then 1 else 0) == b
  | .int a, .bl b => a == (if b then 1 else 0)
  | .int a, .int b => a == b
  | .str a, .str b => a == b
  | _, _ => false
def inF (d : D) (ds : List D) : Bool := ds.any fun e => eqF e d
theorem eqF_V {K : Frag} {H : Hp} {d e : D} {x y : V} (h1 : flat d = true) (h2 : flat e = true) (r1 : Rep K H d x) (r2 : Rep K H e y) : eqV x y = eqF d e ∧ flatV x = true ∧ flatV y = true := by
  cases d <;> first | (cases h1; done) | skip
  all_goals (cases e <;> first | (cases h2; done) | skip)
  all_goals (first | (cases rep_non.mp r1) | (cases rep_bl.mp r1) | (cases rep_int.mp r1) | (cases rep_str.mp r1))
  all_goals (first | (cases rep_non.mp r2) | (cases rep_bl.mp r2) | (cases rep_int.mp r2) | (cases rep_str.mp r2))
  all_goals exact ⟨rfl, rfl, rfl⟩
theorem inF_V {K : Frag} {H : Hp} {d : D} {x : V} (h1 : flat d = true) (r1 : Rep K H d x) : ∀ {ds : List D} {xs : List V}, ds.all flat = true → RepL K H ds xs → inV x xs = inF d ds ∧ flatV x = true ∧ xs.all flatV = true
  | [], xs, _, r => by cases r.nil_inv; exact ⟨rfl, (eqF_V h1 h1 r1 r1).2.1, rfl⟩
  | e :: ds, xs, h2, r => by
    obtain ⟨y, ys, rfl, k1, k2⟩ := r.cons_inv
    rw [List.all_cons, Bool.and_eq_true] at h2
    obtain ⟨z1, z2, z3⟩ := inF_V h1 r1 h2.2 k2
    obtain ⟨w1, w2, w3⟩ := eqF_V h2.1 h1 k1 r1
    refine ⟨?_, z2, ?_⟩
    · show (eqV y x || inV x ys) = (eqF e d || inF d ds)
      rw [w1, z1]
    · rw [List.all_cons, w2, z3]; rfl
def oIn (neg : Bool) : D → D → Option D
  | d, .tup ds => if flat d && ds.all flat then some (.bl (if neg then !inF d ds else inF d ds)) else none
  | d, .lst ds => if flat d && ds.all flat then some (.bl (if neg then !inF d ds else inF d ds)) else none
  | _, _ => none
theorem oIn_r {K : Frag} {neg : Bool} {x y : V} {H : Hp} {Q : VK} (h : rD K (oIn neg) x y H Q) : rIn K neg x y H Q := by
  obtain ⟨F, d1, d2, d, fh, r1, r2, ho, q⟩ := h
  cases d2 <;> simp only [oIn] at ho <;> first | (cases ho; done) | skip
  · split at ho
    · rename_i hc
      cases ho
      rw [Bool.and_eq_true] at hc
      obtain ⟨p, xs, rfl, k1, k2⟩ := rep_tup.mp r2
      obtain ⟨z1, z2, z3⟩ := inF_V hc.1 r1 hc.2 k2
      exact ⟨p, xs, rfl, .inr (same_seqT fh k1), z2, z3, by rw [z1]; exact q _ F H (.refl fh) (rep_bl.mpr rfl)⟩
    · cases ho
  · split at ho
    · rename_i hc
      cases ho
      rw [Bool.and_eq_true] at hc
      obtain ⟨p, xs, rfl, k1, k2⟩ := rep_lst.mp r2
      obtain ⟨z1, z2, z3⟩ := inF_V hc.1 r1 hc.2 k2
      exact ⟨p, xs, rfl, .inl (fh.seq k1), z2, z3, by rw [z1]; exact q _ F H (.refl fh) (rep_bl.mpr rfl)⟩
    · cases ho
theorem od_in : OpR X (compareOp .In) (rD X.K (oIn false)) := opR_imp op_in_seq fun x y H Q h => oIn_r h
end
end DL
set_option maxRecDepth 100000
set_option maxHeartbeats 4000000
namespace DL
open PySem PySem.Spec PyProof.Rows L2
variable [Lam]
mutual
def eqD : D → D → Bool
  | .tup ds, .tup es => eqL ds es
  | .lst ds, .lst es => eqL ds es
  | d, e => eqF d e
def eqL : List D → List D → Bool
  | [], [] => true
  | d :: ds, e :: es => eqD d e && eqL ds es
  | _, _ => false
end
mutual
def okE : D → D → Bool
  | .tup ds, .tup es => okEL ds es
  | .lst ds, .lst es => okEL ds es
  | d, e => flat d && flat e
def okEL : List D → List D → Bool
  | d :: ds, e :: es => okE d e && okEL ds es
  | _, _ => true
end
mutual
def depD : D → Nat
  | .tup ds => depL ds + 1
  | .lst ds => depL ds + 1
  | _ => 0
def depL : List D → Nat
  | [] => 0
  | d :: ds => max (depD d) (depL ds)
end
def eqJ (ds es : List D) (j : Nat) : Bool := match ds[j]?, es[j]? with
  | some d, some e => eqD d e
  | _, _ => true
theorem eqL_range : ∀ (ds es : List D), ((List.range (min ds.length es.length)).all (eqJ ds es) && ds.length == es.length) = eqL ds es
  | [], [] => by simp [eqL]
  | [], e :: es => by simp [eqL]
  | d :: ds, [] => by simp [eqL]
  | d :: ds, e :: es => by
    have ih := eqL_range ds es
    have e1 : min (d :: ds).length (e :: es).length = min ds.length es.length + 1 := by simp only [List.length_cons]; lia
    rw [e1, List.range_succ_eq_map, List.all_cons, List.all_map]
    have e2 : (eqJ (d :: ds) (e :: es) ∘ Nat.succ) = eqJ ds es := by funext j; simp [eqJ]
    have e3 : eqJ (d :: ds) (e :: es) 0 = eqD d e := by simp [eqJ]
    have e4 : ((d :: ds).length == (e :: es).length) = (ds.length == es.length) := by simp
    rw [e2, e3, e4, Bool.and_assoc, ih]
    simp only [eqL]
theorem eqF_flat {d e : D} (h1 : flat d = true) (h2 : flat e = true) : eqD d e = eqF d e := by
  cases d <;> first | (cases h1; done) | skip
  all_goals (cases e <;> first | (cases h2; done) | skip)
  all_goals simp only [eqD]
section
variable {X : Cx} {pins : List (Addr × Obj)} {σ : St} {F H : Hp} {s : Shared}
theorem eqAt_flat {A : Around} {d e : D} {x y : V} {u v : Value} (h1 : flat d = true) (h2 : flat e = true) (r1 : Rep X.K F d x) (r2 : Rep X.K F e y) (q1 : RelV x u) (q2 : RelV y v) : SeqAt.EqAt A s u v (eqD d e) := by
  obtain ⟨z1, z2, z3⟩ := eqF_V h1 h2 r1 r2
  rw [eqF_flat h1 h2, ← z1]
  exact eqAt_V q1 q2 z2 z3
theorem okE_flat {d e : D} (h : okE d e = true) : (∃ ds es, d = .tup ds ∧ e = .tup es ∧ okEL ds es = true) ∨ (∃ ds es, d = .lst ds ∧ e = .lst es ∧ okEL ds es = true) ∨ (flat d = true ∧ flat e = true) := by
  cases d <;> cases e <;> simp only [okE, Bool.and_eq_true] at h <;> first
    | exact .inl ⟨_, _, rfl, rfl, h⟩
    | exact .inr (.inl ⟨_, _, rfl, rfl, h⟩)
    | exact .inr (.inr h)
theorem same_eq (I : Inv X pins σ H s) (fh : Same F H) : ∀ {d e : D} {x : V}, okE d e = true → Rep X.K F d x → Rep X.K F e x → eqD d e = true := by
  suffices hh : ∀ n, (∀ d e x, sizeOf d < n → okE d e = true → Rep X.K F d x → Rep X.K F e x → eqD d e = true) from fun {d e x} => hh (sizeOf d + 1) d e x (Nat.lt_succ_self _)
  intro n
  induction n with
  | zero => intro d e x h; exact absurd h (Nat.not_lt_zero _)
  | succ n ih =>
    intro d e x hn ok r1 r2
    have seq : ∀ (ds es : List D) (xs : List V), sizeOf ds < n → okEL ds es = true → RepL X.K F ds xs → RepL X.K F es xs → eqL ds es = true := by
      intro ds
      induction ds with
      | nil =>
        intro es xs _ _ k1 k2
        cases k1.nil_inv
        cases es with
        | nil => simp only [eqL]
        | cons e es => obtain ⟨_, _, z, _⟩ := k2.cons_inv; cases z
      | cons d ds ihd =>
        intro es xs hs ho k1 k2
        obtain ⟨x, r, rfl, a1, a2⟩ := k1.cons_inv
        cases es with
        | nil => cases k2.nil_inv
        | cons e es =>
          obtain ⟨x', r', z, b1, b2⟩ := k2.cons_inv
          cases z
          simp only [okEL, Bool.and_eq_true] at ho
          have hs1 : sizeOf d < n := by simp only [List.cons.sizeOf_spec] at hs; lia
          have hs2 : sizeOf ds < n := by simp only [List.cons.sizeOf_spec] at hs; lia
          simp only [eqL, Bool.and_eq_true]
          exact ⟨ih d e x hs1 ho.1 a1 b1, ihd es r hs2 ho.2 a2 b2⟩
    rcases okE_flat ok with ⟨ds, es, rfl, rfl, ho⟩ | ⟨ds, es, rfl, rfl, ho⟩ | ⟨h1, h2⟩
    · obtain ⟨a, xs, rfl, k1, k2⟩ := rep_tup.mp r1
      obtain ⟨b, ys, z, k3, k4⟩ := rep_tup.mp r2
      cases z
      cases I.tuple_inj (same_seqT fh k1) (same_seqT fh k3)
      simp only [eqD]
      exact seq ds es xs (by simp only [D.tup.sizeOf_spec] at hn; lia) ho k2 k4
    · obtain ⟨a, xs, rfl, k1, k2⟩ := rep_lst.mp r1
      obtain ⟨b, ys, z, k3, k4⟩ := rep_lst.mp r2
      cases z
      cases I.list_inj (fh.seq k1) (fh.seq k3)
      simp only [eqD]
      exact seq ds es xs (by simp only [D.lst.sizeOf_spec] at hn; lia) ho k2 k4
    · obtain ⟨z1, _⟩ := eqF_V h1 h2 r1 r2
      rw [eqF_flat h1 h2, ← z1]
      cases d <;> first | (cases h1; done) | skip
      · cases rep_non.mp r1; rfl
      · cases rep_bl.mp r1; simp [eqV]
      · cases rep_int.mp r1; simp [eqV]
      · cases rep_str.mp r1; simp [eqV]
theorem eqAt_D (I : Inv X pins σ H s) (fh : Same F H) : ∀ {d e : D} {x y : V} {u v : Value} (A : Around), okE d e = true → A.units + depD d < cLine → Rep X.K F d x → Rep X.K F e y → RelV x u → RelV y v → SeqAt.EqAt A s u v (eqD d e) := by
  suffices hh : ∀ n, (∀ d e x y u v (A : Around), sizeOf d < n → okE d e = true → A.units + depD d < cLine → Rep X.K F d x → Rep X.K F e y → RelV x u → RelV y v → SeqAt.EqAt A s u v (eqD d e)) from
    fun {d e x y u v} A => hh (sizeOf d + 1) d e x y u v A (Nat.lt_succ_self _)
  intro n
  induction n with
  | zero => intro d e x y u v A h; exact absurd h (Nat.not_lt_zero _)
  | succ n ih =>
    intro d e x y u v A hn ok hu r1 r2 q1 q2
    have seq : ∀ (ds es : List D) (xs ys : List V) (us vs : List Value) (A : Around), sizeOf ds < n → okEL ds es = true → A.units + depL ds < cLine → RepL X.K F ds xs → RepL X.K F es ys → Vals xs us → Vals ys vs →
        ∀ j (h1 : j < us.length) (h2 : j < vs.length), SeqAt.EqAt A s us[j] vs[j] (eqJ ds es j) := by
      intro ds
      induction ds with
      | nil =>
        intro es xs ys us vs A _ _ _ k1 _ w1 _ j h1
        cases k1.nil_inv
        cases w1
        exact absurd h1 (Nat.not_lt_zero _)
      | cons d ds ihd =>
        intro es xs ys us vs A hs ho hu k1 k2 w1 w2 j h1 h2
        obtain ⟨x, r, rfl, a1, a2⟩ := k1.cons_inv
        cases w1 with
        | cons p1 p2 =>
          cases es with
          | nil => cases k2.nil_inv; cases w2; exact absurd h2 (Nat.not_lt_zero _)
          | cons e es =>
            obtain ⟨y, r', rfl, b1, b2⟩ := k2.cons_inv
            cases w2 with
            | cons p3 p4 =>
              simp only [okEL, Bool.and_eq_true] at ho
              have hs1 : sizeOf d < n := by simp only [List.cons.sizeOf_spec] at hs; lia
              have hs2 : sizeOf ds < n := by simp only [List.cons.sizeOf_spec] at hs; lia
              simp only [depL] at hu
              cases j with
              | zero =>
                have e0 : eqJ (d :: ds) (e :: es) 0 = eqD d e := by simp [eqJ]
                rw [e0]
                exact ih d e x y _ _ A hs1 ho.1 (by lia) a1 b1 p1 p3
              | succ j =>
                have e0 : eqJ (d :: ds) (e :: es) (j + 1) = eqJ ds es j := by simp [eqJ]
                rw [e0]
                exact ihd es r r' _ _ A hs2 ho.2 (by lia) a2 b2 p2 p4 j (by simpa using h1) (by simpa using h2)
    rcases okE_flat ok with ⟨ds, es, rfl, rfl, ho⟩ | ⟨ds, es, rfl, rfl, ho⟩ | ⟨h1, h2⟩
    · have rr := same_eq I fh ok r1
      obtain ⟨a, xs, rfl, k1, k2⟩ := rep_tup.mp r1
      obtain ⟨b, ys, rfl, k3, k4⟩ := rep_tup.mp r2
      cases q1
      cases q2
      by_cases hab : a = b
      · subst hab
        rw [rr r2]
        exact SeqAt.EqAt.same _
      · obtain ⟨i1, v1, t1, _⟩ := I.tuple (same_seqT fh k1)
        obtain ⟨i2, v2, t2, _⟩ := I.tuple (same_seqT fh k3)
        simp only [depD] at hu
        refine SeqAt.EqAt.of_refs hab ?_
        have hq := seq ds es xs ys i1 i2 A.in1 (by simp only [D.tup.sizeOf_spec] at hn; lia) ho (by show A.units + 1 + depL ds < cLine; lia) k2 k4 v1 v2
        have := SeqAt.RcAt.tuples (A := A) (e := eqJ ds es) (show s.heap.IsTuple a i1.toArray from t1) (show s.heap.IsTuple b i2.toArray from t2) (by lia) (fun j h1 h2 => by simpa using hq j (by simpa using h1) (by simpa using h2))
        simp only [List.size_toArray, ← v1.length, ← v2.length, ← k2.length, ← k4.length, eqL_range] at this
        simpa only [eqD] using this
    · have rr := same_eq I fh ok r1
      obtain ⟨a, xs, rfl, k1, k2⟩ := rep_lst.mp r1
      obtain ⟨b, ys, rfl, k3, k4⟩ := rep_lst.mp r2
      cases q1
      cases q2
      by_cases hab : a = b
      · subst hab
        rw [rr r2]
        exact SeqAt.EqAt.same _
      · obtain ⟨i1, v1, t1, _⟩ := I.list (fh.seq k1)
        obtain ⟨i2, v2, t2, _⟩ := I.list (fh.seq k3)
        simp only [depD] at hu
        refine SeqAt.EqAt.of_refs hab ?_
        have hq := seq ds es xs ys i1 i2 A.in1 (by simp only [D.lst.sizeOf_spec] at hn; lia) ho (by show A.units + 1 + depL ds < cLine; lia) k2 k4 v1 v2
        have hl1 : i1.length = ds.length := by rw [← v1.length, ← k2.length]
        have hl2 : i2.length = es.length := by rw [← v2.length, ← k4.length]
        simp only [eqD]
        by_cases hl : ds.length = es.length
        · have := SeqAt.RcAt.lists (A := A) (e := eqJ ds es) t1.isList t2.isList (by rw [List.size_toArray, List.size_toArray, hl1, hl2]; exact hl) (by lia) (fun j h1 h2 => by simpa using hq j (by simpa using h1) (by simpa using h2))
          have e1 : (List.range i1.toArray.size).all (eqJ ds es) = eqL ds es := by
            rw [← eqL_range, List.size_toArray, hl1, ← hl, Nat.min_self]; simp
          rw [e1] at this
          exact this
        · have e1 : eqL ds es = false := by rw [← eqL_range]; simp [hl]
          rw [e1]
          exact SeqAt.RcAt.lists_lengths t1.isList t2.isList (by rw [List.size_toArray, List.size_toArray, hl1, hl2]; simpa using hl) (by lia)
    · exact eqAt_flat h1 h2 r1 r2 q1 q2
def oEqS : D → D → Option D
  | .tup ds, .tup es => if okEL ds es && decide (depL ds ≤ 60) then some (.bl (eqL ds es)) else none
  | .lst ds, .lst es => if okEL ds es && decide (depL ds ≤ 60) then some (.bl (eqL ds es)) else none
  | _, _ => none
theorem od_eqS (hu : X.A.units + 64 < cLine) : OpR X (compareOp .Eq) (rD X.K oEqS) := by
  intro pins s σ H x y v u Q I rx ry h
  obtain ⟨F, d1, d2, d, fh, r1, r2, ho, q⟩ := h
  have part : ∀ {ds es : List D} {xs ys : List V} {us vs : List Value}, okEL ds es = true → depL ds ≤ 60 → RepL X.K F ds xs → RepL X.K F es ys → Vals xs us → Vals ys vs →
      ∀ j (h1 : j < us.length) (h2 : j < vs.length), SeqAt.EqAt X.A.in1 s us[j] vs[j] (eqJ ds es j) := by
    intro ds
    induction ds with
    | nil =>
      intro es xs ys us vs _ _ k1 _ w1 _ j h1
      cases k1.nil_inv
      cases w1
      exact absurd h1 (Nat.not_lt_zero _)
    | cons d ds ihd =>
      intro es xs ys us vs ho hd k1 k2 w1 w2 j h1 h2
      obtain ⟨x, r, rfl, a1, a2⟩ := k1.cons_inv
      cases w1 with
      | cons p1 p2 =>
        cases es with
        | nil => cases k2.nil_inv; cases w2; exact absurd h2 (Nat.not_lt_zero _)
        | cons e es =>
          obtain ⟨y, r', rfl, b1, b2⟩ := k2.cons_inv
          cases w2 with
          | cons p3 p4 =>
            simp only [okEL, Bool.and_eq_true] at ho
            simp only [depL] at hd
            cases j with
            | zero =>
              have e0 : eqJ (d :: ds) (e :: es) 0 = eqD d e := by simp [eqJ]
              rw [e0]
              exact eqAt_D I fh _ ho.1 (by show X.A.units + 1 + depD d < cLine; lia) a1 b1 p1 p3
            | succ j =>
              have e0 : eqJ (d :: ds) (e :: es) (j + 1) = eqJ ds es j := by simp [eqJ]
              rw [e0]
              exact ihd ho.2 (by lia) a2 b2 p2 p4 j (by simpa using h1) (by simpa using h2)
  unfold oEqS at ho
  split at ho
  · rename_i ds es
    split at ho
    · rename_i hc
      cases ho
      rw [Bool.and_eq_true] at hc
      obtain ⟨a, xs, rfl, k1, k2⟩ := rep_tup.mp r1
      obtain ⟨b, ys, rfl, k3, k4⟩ := rep_tup.mp r2
      cases rx
      cases ry
      obtain ⟨i1, v1, t1, _⟩ := I.tuple (same_seqT fh k1)
      obtain ⟨i2, v2, t2, _⟩ := I.tuple (same_seqT fh k3)
      have hq := part hc.1 (of_decide_eq_true hc.2) k2 k4 v1 v2
      refine SeqAt.eq_tupleAt (e := eqJ ds es) (show s.heap.IsTuple a i1.toArray from t1) (show s.heap.IsTuple b i2.toArray from t2) (by lia) (fun j h1 h2 => by simpa using hq j (by simpa using h1) (by simpa using h2)) ?_
      simp only [List.size_toArray, ← v1.length, ← v2.length, ← k2.length, ← k4.length, eqL_range]
      exact ⟨.bl _, H, I, rfl, q _ F H (.refl fh) (rep_bl.mpr rfl)⟩
    · cases ho
  · rename_i ds es
    split at ho
    · rename_i hc
      cases ho
      rw [Bool.and_eq_true] at hc
      obtain ⟨a, xs, rfl, k1, k2⟩ := rep_lst.mp r1
      obtain ⟨b, ys, rfl, k3, k4⟩ := rep_lst.mp r2
      cases rx
      cases ry
      obtain ⟨i1, v1, t1, _⟩ := I.list (fh.seq k1)
      obtain ⟨i2, v2, t2, _⟩ := I.list (fh.seq k3)
      have hq := part hc.1 (of_decide_eq_true hc.2) k2 k4 v1 v2
      have hl1 : i1.length = ds.length := by rw [← v1.length, ← k2.length]
      have hl2 : i2.length = es.length := by rw [← v2.length, ← k4.length]
      by_cases hl : ds.length = es.length
      · refine SeqAt.eq_listAt (e := eqJ ds es) t1.isList t2.isList (by rw [List.size_toArray, List.size_toArray, hl1, hl2]; exact hl) (by lia) (fun j h1 h2 => by simpa using hq j (by simpa using h1) (by simpa using h2)) ?_
        have e1 : (List.range i1.toArray.size).all (eqJ ds es) = eqL ds es := by
          rw [← eqL_range, List.size_toArray, hl1, ← hl, Nat.min_self]; simp
        rw [e1]
        exact ⟨.bl _, H, I, rfl, q _ F H (.refl fh) (rep_bl.mpr rfl)⟩
      · have e1 : eqL ds es = false := by rw [← eqL_range]; simp [hl]
        rw [e1] at q
        exact SeqAt.eq_list_lengthsAt t1.isList t2.isList (by rw [List.size_toArray, List.size_toArray, hl1, hl2]; simpa using hl) (by lia) ⟨.bl _, H, I, rfl, q _ F H (.refl fh) (rep_bl.mpr rfl)⟩
    · cases ho
  · cases ho
abbrev oEq : D → D → Option D := fun x y => (oEqF x y).or (oEqS x y)
theorem od_eq (hu : X.A.units + 64 < cLine) : OpR X (compareOp .Eq) (rD X.K oEq) := opR_or od_eqF (od_eqS hu)
end
end DL
set_option maxRecDepth 100000
set_option maxHeartbeats 4000000
namespace DL
open PySem PySem.Spec PyProof.Rows L2
variable [Lam]
def itN : Bool → String
  | true => "list_iterator"
  | false => "tuple_iterator"
def sqN : Bool → String
  | true => "list"
  | false => "tuple"
def SI (b : Bool) (h : Heap) (it l : Addr) (k : Nat) : Prop := ∃ o, h.get? it = some o ∧ o.cls = .type (itN b) ∧ o.data = .fields #[.ref l, .int k 0]
def SO (b : Bool) (h : Heap) (l : Addr) (xs : Array Value) : Prop := ∃ o, h.get? l = some o ∧ o.cls = .type (sqN b) ∧ ∃ n, o.data = .seq xs n
theorem SI.ext {b : Bool} {h h' : Heap} {it l c : Addr} {k : Nat} (x : SI b h it l k) (e : Heap.ExtBut c h h') (n : it ≠ c) : SI b h' it l k := let ⟨o, ho, r⟩ := x; ⟨o, e it o n ho, r⟩
theorem SO.ext {b : Bool} {h h' : Heap} {l c : Addr} {xs : Array Value} (x : SO b h l xs) (e : Heap.ExtBut c h h') (n : l ≠ c) : SO b h' l xs := let ⟨o, ho, r⟩ := x; ⟨o, e l o n ho, r⟩
theorem SI.keep {b : Bool} {h h' : Heap} {it l : Addr} {k : Nat} (x : SI b h it l k) (e : ∀ o, h.get? it = some o → h'.get? it = some o) : SI b h' it l k := let ⟨o, ho, r⟩ := x; ⟨o, e o ho, r⟩
section
variable {prog : Program} {w : World} {A : Around} {E : Value → Shared → Prop} {s : Shared}
theorem nx_some {b : Bool} {it l : Addr} {k : Nat} {xs : Array Value} {x : Value} {Q : Value → Shared → Prop} (hi : SI b s.heap it l k) (ho : SO b s.heap l xs) (hx : xs[k]? = some x)
    (h : ∀ h', SI b h' it l (k + 1) → Heap.SameBut it s.heap h' → Q x { s with heap := h' }) : wpAny (model prog w) A (Builtin.SmallTypes.nextOf (.ref it)) Q E s := by
  cases b with
  | true => exact wpAny_nextOf_list_item hi ho hx h
  | false =>
    obtain ⟨o, e1, e2, e3⟩ := id hi
    obtain ⟨o2, f1, f2, n, f3⟩ := id ho
    have ty : s.TypeIs (.ref it) "tuple_iterator" := ⟨o, e1, e2⟩
    unfold Builtin.SmallTypes.nextOf
    refine wpAny_bind (wpAny_callSpecial?_slot (name := Str.ofString "__next__") ty F.slot_tuple_iterator_next (wpAny_call_entry F.slot_tuple_iterator_next ty F.entry_tuple_iterator_next ?_ (F.args_tuple_iterator_next_1 _)))
    show wpAny _ _ (field (.ref it) 0 >>= _) _ _ s
    refine wpAny_bind (wpAny_field e1 e3 (x := .ref l) rfl ?_)
    show wpAny _ _ (if (Value.ref l == Value.none) = true then _ else _) _ _ s
    rw [if_neg (fun z : (Value.ref l == Value.none) = true => Bool.false_ne_true z)]
    show wpAny _ _ (field (.ref it) 1 >>= _) _ _ s
    refine wpAny_bind (wpAny_field e1 e3 (x := .int k 0) rfl ?_)
    show wpAny _ _ (seqItems? (.ref l) >>= _) _ _ s
    refine wpAny_bind (wpAny_seqItems f1 f3 ?_)
    simp only [Int.toNat_natCast, hx]
    refine wpAny_bind (wpAny_setField e1 e3 (by simp) (wpAny_pure ⟨x, rfl, wpAny_pure (h _ ⟨_, Heap.get?_update_self _ e1 (Obj.isFreed_of_fields (Obj.data_mapFields e3 _)), (Obj.cls_mapFields ..).trans e2, ?_⟩ (Heap.SameBut.update ..))⟩))
    rw [Obj.data_mapFields e3]
    simp [rawInt]
theorem nx_none {b : Bool} {it l : Addr} {k : Nat} {xs : Array Value} {Q : Value → Shared → Prop} (hh : A.handled = none) (hi : SI b s.heap it l k) (ho : SO b s.heap l xs) (hx : xs[k]? = none)
    (h : ∀ h' e, Heap.ExtBut it s.heap h' → (∃ o, h'.get? e = some o ∧ o.cls = .type "StopIteration") → E (.ref e) { s with heap := h' }) : wpAny (model prog w) A (Builtin.SmallTypes.nextOf (.ref it)) Q E s := by
  cases b with
  | true => exact wpAny_nextOf_list_end hh hi ho hx h
  | false =>
    obtain ⟨o, e1, e2, e3⟩ := id hi
    obtain ⟨o2, f1, f2, n, f3⟩ := id ho
    have ty : s.TypeIs (.ref it) "tuple_iterator" := ⟨o, e1, e2⟩
    unfold Builtin.SmallTypes.nextOf
    refine wpAny_bind (wpAny_callSpecial?_slot (name := Str.ofString "__next__") ty F.slot_tuple_iterator_next (wpAny_call_entry F.slot_tuple_iterator_next ty F.entry_tuple_iterator_next ?_ (F.args_tuple_iterator_next_1 _)))
    show wpAny _ _ (field (.ref it) 0 >>= _) _ _ s
    refine wpAny_bind (wpAny_field e1 e3 (x := .ref l) rfl ?_)
    show wpAny _ _ (if (Value.ref l == Value.none) = true then _ else _) _ _ s
    rw [if_neg (fun z : (Value.ref l == Value.none) = true => Bool.false_ne_true z)]
    show wpAny _ _ (field (.ref it) 1 >>= _) _ _ s
    refine wpAny_bind (wpAny_field e1 e3 (x := .int k 0) rfl ?_)
    show wpAny _ _ (seqItems? (.ref l) >>= _) _ _ s
    refine wpAny_bind (wpAny_seqItems f1 f3 ?_)
    simp only [Int.toNat_natCast, hx]
    refine wpAny_bind (wpAny_rule (wpAny_bind (wpAny_setField e1 e3 (by simp) ?_)))
    show wpAny _ _ (newExc (.type "StopIteration") [] >>= _) _ _ _
    refine wpAny_bind ?_
    simp only [newExc, newTuple]
    refine wpAny_bind (wpAny_newObj_type (wpAny_bind (m := firstArgMember _ _) (wpAny_of_eq (a := Value.none) (by first | rfl | (simp only [firstArgMember]; rfl)) (wpAny_newObj_type ?_ (by size_fits)))) (by size_fits))
    simp only [raiseNew]
    refine wpAny_bind (wpAny_handled ?_)
    first | rw [show A.in1.handled = none from hh] | rw [hh]
    exact wpAny_bind (wpAny_pure (wpAny_throw (h _ _ (((Heap.SameBut.update ..).extBut.push _).push _) ⟨_, Heap.get?_push_size _ rfl, rfl⟩)))
structure Z5 (z ti to i1 i2 : Addr) : Prop where
  a1 : ti ≠ z
  a2 : to ≠ z
  a3 : i1 ≠ z
  a4 : i2 ≠ z
  a5 : ti ≠ to
  a6 : ti ≠ i1
  a7 : ti ≠ i2
  a8 : to ≠ i1
  a9 : to ≠ i2
  a10 : i1 ≠ i2
structure Off (l z to i1 i2 : Addr) : Prop where
  z : l ≠ z
  o : l ≠ to
  i : l ≠ i1
  j : l ≠ i2
theorem zipN_item {b1 b2 : Bool} {z ti to i1 i2 l1 l2 : Addr} {k1 k2 : Nat} {xs ys : Array Value} {x y p q : Value} {Q : Value → Shared → Prop} (D : Z5 z ti to i1 i2) (m1 : Off l1 z to i1 i2) (m2 : Off l2 z to i1 i2)
    (hz : IsZip s.heap z ti to .none) (ht : IsPair s.heap ti (.ref i1) (.ref i2)) (hp : IsPair s.heap to p q)
    (h1 : SI b1 s.heap i1 l1 k1) (h2 : SI b2 s.heap i2 l2 k2) (o1 : SO b1 s.heap l1 xs) (o2 : SO b2 s.heap l2 ys) (hx : xs[k1]? = some x) (hy : ys[k2]? = some y)
    (hQ : ∀ h', IsZip h' z ti to (rawInt s.heap.objs.size) → IsPair h' to x y → SI b1 h' i1 l1 (k1 + 1) → SI b2 h' i2 l2 (k2 + 1) → IsPair h' s.heap.objs.size x y → h'.objs.size = s.heap.objs.size + 1 →
      (∀ c o, c ≠ z → c ≠ to → c ≠ i1 → c ≠ i2 → s.heap.get? c = some o → h'.get? c = some o) → Q (.ref s.heap.objs.size) { s with heap := h' }) :
    wpAny (model prog w) A (Builtin.«zip.__next__» ⟨[.ref z], []⟩) (fun fin s' => ∃ v, fin = .done (.ret v) ∧ Q v s') E s := by
  show wpAny _ _ (field (.ref z) 2 >>= _) _ _ _
  refine wpAny_bind (wpAny_field hz rfl (x := .bool false) rfl ?_)
  show wpAny _ _ (field (.ref z) 3 >>= _) _ _ _
  refine wpAny_bind (wpAny_field hz rfl (x := .ref ti) rfl (wpAny_bind (wpAny_seqItems ht rfl ?_)))
  show wpAny _ _ (Builtin.SmallTypes.ownedTupleIsFree (.ref z) >>= _) _ _ _
  refine wpAny_bind ?_
  unfold Builtin.SmallTypes.ownedTupleIsFree
  refine wpAny_bind (wpAny_field hz rfl (x := .none) rfl (wpAny_pure ?_))
  simp only [if_true]
  refine wpAny_bind (wpAny_rule (wpAny_bind (wpAny_field hz rfl (x := .ref to) rfl (wpAny_bind (wpAny_setField_rec hz (by simp) fun g1 hz1 u1 => ?_)))))
  have hz1' : IsZip g1 z ti to .ellipsis := hz1
  refine wpAny_bind ?_
  simp only [List.zipIdx_cons, List.zipIdx_nil, List.forIn_cons, List.forIn_nil]
  refine wpAny_bind (wpAny_bind (wpAny_onRaise ?_))
  show wpAny _ _ (Builtin.SmallTypes.nextOf (.ref i1) >>= _) _ _ _
  refine wpAny_bind (nx_some (h1.ext u1.extBut D.a3) (o1.ext u1.extBut m1.z) hx fun g2 n1 u2 => wpAny_pure ?_)
  have hp2 : IsPair g2 to p q := u2.extBut _ _ D.a8 (u1.extBut _ _ D.a2 hp)
  refine wpAny_bind (wpAny_seqItems hp2 rfl (wpAny_bind (wpAny_updateSeq_pair hp2 fun g3 hp3 u3 => ?_)))
  have hp3' : IsPair g3 to x q := hp3
  refine wpAny_bind (wpAny_letGo (wpAny_pure (wpAny_bind (wpAny_bind (wpAny_onRaise ?_)))))
  show wpAny _ _ (Builtin.SmallTypes.nextOf (.ref i2) >>= _) _ _ _
  refine wpAny_bind (nx_some (((h2.ext u1.extBut D.a4).ext u2.extBut D.a10.symm).ext u3.extBut D.a9.symm) (((o2.ext u1.extBut m2.z).ext u2.extBut m2.i).ext u3.extBut m2.o) hy fun g4 n2 u4 => wpAny_pure ?_)
  have hp4 : IsPair g4 to x q := u4.extBut _ _ D.a9 hp3'
  refine wpAny_bind (wpAny_seqItems hp4 rfl (wpAny_bind (wpAny_updateSeq_pair hp4 fun g5 hp5 u5 => ?_)))
  have hp5' : IsPair g5 to x y := hp5
  refine wpAny_bind (wpAny_letGo (wpAny_pure (wpAny_pure (wpAny_bind (wpAny_seqItems hp5' rfl (wpAny_bind (wpAny_newTuple ?_)))))))
  have hsz : g5.objs.size = s.heap.objs.size := by rw [u5.1, u4.1, u3.1, u2.1, u1.1]
  have hz5 : IsZip g5 z ti to .ellipsis := u5.extBut _ _ D.a2.symm (u4.extBut _ _ D.a4.symm (u3.extBut _ _ D.a2.symm (u2.extBut _ _ D.a3.symm hz1')))
  have kp : ∀ c o, c ≠ z → c ≠ to → c ≠ i1 → c ≠ i2 → s.heap.get? c = some o → g5.get? c = some o := fun c o c1 c2 c3 c4 e => u5.extBut _ _ c2 (u4.extBut _ _ c4 (u3.extBut _ _ c2 (u2.extBut _ _ c3 (u1.extBut _ _ c1 e))))
  have j1 : SI b1 g5 i1 l1 (k1 + 1) := ((n1.ext u3.extBut D.a8.symm).ext u4.extBut D.a10).ext u5.extBut D.a8.symm
  have j2 : SI b2 g5 i2 l2 (k2 + 1) := n2.ext u5.extBut D.a9.symm
  have hzl : z < g5.objs.size := Heap.lt_size hz5
  show wpAny _ _ (Builtin.SmallTypes.ownedTupleHandOut (.ref z) (.ref g5.objs.size) >>= _) _ _ _
  refine wpAny_bind ?_
  unfold Builtin.SmallTypes.ownedTupleHandOut
  have hz6 : IsZip (g5.push { cls := .type "tuple", data := .seq #[x, y] }) z ti to .ellipsis := Heap.get?_push_of_some _ hz5
  refine wpAny_bind (wpAny_setField_rec hz6 (by simp) fun g7 hz7 u7 => ?_)
  have hz7' : IsZip g7 z ti to (rawInt g5.objs.size) := hz7
  refine wpAny_setField_rec hz7' (by simp) fun g8 hz8 u8 => ?_
  have hz8' : IsZip g8 z ti to (rawInt g5.objs.size) := hz8
  have up : ∀ c o, c ≠ z → g5.get? c = some o → g8.get? c = some o := fun c o c1 e => u8.extBut _ _ c1 (u7.extBut _ _ c1 (Heap.get?_push_of_some _ e))
  have hT : IsPair g8 g5.objs.size x y := u8.extBut _ _ (Nat.ne_of_gt hzl) (u7.extBut _ _ (Nat.ne_of_gt hzl) (Heap.get?_push_size _ rfl))
  have hl8 : g8.objs.size = g5.objs.size + 1 := by rw [u8.1, u7.1, Heap.size_push]
  rw [hsz] at hz8' hT hl8
  refine wpAny_pure ⟨_, rfl, ?_⟩
  show Q (.ref g5.objs.size) _
  rw [hsz]
  exact hQ g8 hz8' (up _ _ D.a2 hp5') (j1.keep fun o e => up _ o D.a3 e) (j2.keep fun o e => up _ o D.a4 e) hT hl8 fun c o c1 c2 c3 c4 e => up c o c1 (kp c o c1 c2 c3 c4 e)
theorem zipN_end {b1 b2 : Bool} {z ti to i1 i2 l1 l2 : Addr} {k1 k2 : Nat} {xs ys : Array Value} {p q : Value} {Q : Fin → Shared → Prop} (hh : A.handled = none) (D : Z5 z ti to i1 i2) (m1 : Off l1 z to i1 i2) (m2 : Off l2 z to i1 i2)
    (hz : IsZip s.heap z ti to .none) (ht : IsPair s.heap ti (.ref i1) (.ref i2)) (hp : IsPair s.heap to p q)
    (h1 : SI b1 s.heap i1 l1 k1) (h2 : SI b2 s.heap i2 l2 k2) (o1 : SO b1 s.heap l1 xs) (o2 : SO b2 s.heap l2 ys) (hend : xs[k1]? = none ∨ ys[k2]? = none)
    (hE : ∀ h' e, (∀ c o, c ≠ z → c ≠ to → c ≠ i1 → c ≠ i2 → s.heap.get? c = some o → h'.get? c = some o) → (∃ o, h'.get? e = some o ∧ o.cls = .type "StopIteration") → E (.ref e) { s with heap := h' }) :
    wpAny (model prog w) A (Builtin.«zip.__next__» ⟨[.ref z], []⟩) Q E s := by
  show wpAny _ _ (field (.ref z) 2 >>= _) _ _ _
  refine wpAny_bind (wpAny_field hz rfl (x := .bool false) rfl ?_)
  show wpAny _ _ (field (.ref z) 3 >>= _) _ _ _
  refine wpAny_bind (wpAny_field hz rfl (x := .ref ti) rfl (wpAny_bind (wpAny_seqItems ht rfl ?_)))
  show wpAny _ _ (Builtin.SmallTypes.ownedTupleIsFree (.ref z) >>= _) _ _ _
  refine wpAny_bind ?_
  unfold Builtin.SmallTypes.ownedTupleIsFree
  refine wpAny_bind (wpAny_field hz rfl (x := .none) rfl (wpAny_pure ?_))
  simp only [if_true]
  refine wpAny_bind (wpAny_rule (wpAny_bind (wpAny_field hz rfl (x := .ref to) rfl (wpAny_bind (wpAny_setField_rec hz (by simp) fun g1 hz1 u1 => ?_)))))
  have hz1' : IsZip g1 z ti to .ellipsis := hz1
  refine wpAny_bind ?_
  simp only [List.zipIdx_cons, List.zipIdx_nil, List.forIn_cons, List.forIn_nil]
  refine wpAny_bind (wpAny_bind (wpAny_onRaise ?_))
  show wpAny _ _ (Builtin.SmallTypes.nextOf (.ref i1) >>= _) _ _ _
  cases hx : xs[k1]? with
  | none =>
    refine wpAny_bind (nx_none hh (h1.ext u1.extBut D.a3) (o1.ext u1.extBut m1.z) hx fun g2 e u2 he => ?_)
    obtain ⟨oe, y1, y2⟩ := he
    have hz2 : IsZip g2 z ti to .ellipsis := u2 _ _ D.a3.symm hz1'
    have ne : e ≠ z := fun x => by subst x; rw [hz2] at y1; cases y1; simp at y2
    exact wpAny_setField_rec hz2 (by simp) fun g3 _ u3 => hE g3 e (fun c o c1 _ c3 _ x => u3.extBut _ _ c1 (u2 _ _ c3 (u1.extBut _ _ c1 x))) ⟨oe, u3.extBut _ _ ne y1, y2⟩
  | some x =>
    have hy : ys[k2]? = none := by rcases hend with h | h; rw [hx] at h; cases h; exact h
    refine wpAny_bind (nx_some (h1.ext u1.extBut D.a3) (o1.ext u1.extBut m1.z) hx fun g2 n1 u2 => wpAny_pure ?_)
    have hp2 : IsPair g2 to p q := u2.extBut _ _ D.a8 (u1.extBut _ _ D.a2 hp)
    refine wpAny_bind (wpAny_seqItems hp2 rfl (wpAny_bind (wpAny_updateSeq_pair hp2 fun g3 hp3 u3 => ?_)))
    refine wpAny_bind (wpAny_letGo (wpAny_pure (wpAny_bind (wpAny_bind (wpAny_onRaise ?_)))))
    show wpAny _ _ (Builtin.SmallTypes.nextOf (.ref i2) >>= _) _ _ _
    refine wpAny_bind (nx_none hh (((h2.ext u1.extBut D.a4).ext u2.extBut D.a10.symm).ext u3.extBut D.a9.symm) (((o2.ext u1.extBut m2.z).ext u2.extBut m2.i).ext u3.extBut m2.o) hy fun g4 e u4 he => ?_)
    obtain ⟨oe, y1, y2⟩ := he
    have hz4 : IsZip g4 z ti to .ellipsis := u4 _ _ D.a4.symm (u3.extBut _ _ D.a2.symm (u2.extBut _ _ D.a3.symm hz1'))
    have ne : e ≠ z := fun x => by subst x; rw [hz4] at y1; cases y1; simp at y2
    exact wpAny_setField_rec hz4 (by simp) fun g5 _ u5 => hE g5 e (fun c o c1 c2 c3 c4 x => u5.extBut _ _ c1 (u4 _ _ c4 (u3.extBut _ _ c2 (u2.extBut _ _ c3 (u1.extBut _ _ c1 x))))) ⟨oe, u5.extBut _ _ ne y1, y2⟩
theorem pyNext_zip {b1 b2 : Bool} {z ti to i1 i2 l1 l2 : Addr} {k1 k2 : Nat} {xs ys : Array Value} {x y p q : Value} {Q : Option Value → Shared → Prop} (D : Z5 z ti to i1 i2) (m1 : Off l1 z to i1 i2) (m2 : Off l2 z to i1 i2)
    (hz : IsZip s.heap z ti to .none) (ht : IsPair s.heap ti (.ref i1) (.ref i2)) (hp : IsPair s.heap to p q)
    (h1 : SI b1 s.heap i1 l1 k1) (h2 : SI b2 s.heap i2 l2 k2) (o1 : SO b1 s.heap l1 xs) (o2 : SO b2 s.heap l2 ys) (hx : xs[k1]? = some x) (hy : ys[k2]? = some y)
    (hQ : ∀ h', IsZip h' z ti to (rawInt s.heap.objs.size) → IsPair h' to x y → SI b1 h' i1 l1 (k1 + 1) → SI b2 h' i2 l2 (k2 + 1) → IsPair h' s.heap.objs.size x y → h'.objs.size = s.heap.objs.size + 1 →
      (∀ c o, c ≠ z → c ≠ to → c ≠ i1 → c ≠ i2 → s.heap.get? c = some o → h'.get? c = some o) → Q (some (.ref s.heap.objs.size)) { s with heap := h' }) :
    wpAny (model prog w) A (pyNext (.ref z)) Q E s := by
  have ty : s.TypeIs (.ref z) "zip" := ⟨_, hz, rfl⟩
  unfold pyNext
  exact wpAny_bind (wpAny_attempt (wpAny_callSpecial?_slot (name := Str.ofString "__next__") ty F.slot_zip_next (wpAny_call_entry F.slot_zip_next ty F.entry_zip_next
    (zipN_item D m1 m2 hz ht hp h1 h2 o1 o2 hx hy fun h' c1 c2 c3 c4 c5 c6 c7 => wpAny_pure (hQ h' c1 c2 c3 c4 c5 c6 c7)) (F.args_zip_next_1 _))))
theorem pyNext_zipEnd {b1 b2 : Bool} {z ti to i1 i2 l1 l2 : Addr} {k1 k2 : Nat} {xs ys : Array Value} {p q : Value} {Q : Option Value → Shared → Prop} (hh : A.handled = none) (D : Z5 z ti to i1 i2) (m1 : Off l1 z to i1 i2) (m2 : Off l2 z to i1 i2)
    (hz : IsZip s.heap z ti to .none) (ht : IsPair s.heap ti (.ref i1) (.ref i2)) (hp : IsPair s.heap to p q)
    (h1 : SI b1 s.heap i1 l1 k1) (h2 : SI b2 s.heap i2 l2 k2) (o1 : SO b1 s.heap l1 xs) (o2 : SO b2 s.heap l2 ys) (hend : xs[k1]? = none ∨ ys[k2]? = none)
    (hQ : ∀ h', (∀ c o, c ≠ z → c ≠ to → c ≠ i1 → c ≠ i2 → s.heap.get? c = some o → h'.get? c = some o) → Q none { s with heap := h' }) : wpAny (model prog w) A (pyNext (.ref z)) Q E s := by
  have ty : s.TypeIs (.ref z) "zip" := ⟨_, hz, rfl⟩
  unfold pyNext
  refine wpAny_bind (wpAny_attempt (wpAny_callSpecial?_slot (name := Str.ofString "__next__") ty F.slot_zip_next (wpAny_call_entry F.slot_zip_next ty F.entry_zip_next
    (zipN_end hh D m1 m2 hz ht hp h1 h2 o1 o2 hend fun h' e hk he => ?_) (F.args_zip_next_1 _))))
  obtain ⟨o, y1, y2⟩ := he
  exact wpAny_bind (wpAny_isInstance (T := "StopIteration") (b := true) ⟨o, y1, y2⟩ isSubtype_stop (wpAny_pure (hQ _ hk)))
theorem pyIter_sq {b : Bool} {l : Addr} {xs : Array Value} {Q : Value → Shared → Prop} (h : SO b s.heap l xs) (q : Q (.ref s.heap.objs.size) { s with heap := s.heap.push { cls := .type (itN b), data := .fields #[.ref l, .int 0 0] } }) :
    wpAny (model prog w) A (pyIter (.ref l)) Q E s := by
  cases b with
  | true => exact wpAny_pyIter_list h q
  | false => exact wpAny_pyIter_tuple h q
end
def zh1 (b1 : Bool) (h : Heap) (l1 : Addr) : Heap := h.push { cls := .type (itN b1), data := .fields #[.ref l1, .int 0 0] }
def zh2 (b1 b2 : Bool) (h : Heap) (l1 l2 : Addr) : Heap := (zh1 b1 h l1).push { cls := .type (itN b2), data := .fields #[.ref l2, .int 0 0] }
def zh3 (b1 b2 : Bool) (h : Heap) (l1 l2 : Addr) : Heap := (zh2 b1 b2 h l1 l2).push { cls := .type "tuple", data := .seq #[.ref h.objs.size, .ref (zh1 b1 h l1).objs.size] }
def zh4 (b1 b2 : Bool) (h : Heap) (l1 l2 : Addr) : Heap := (zh3 b1 b2 h l1 l2).push { cls := .type "tuple", data := .seq #[.none, .none] }
def zh5 (b1 b2 : Bool) (h : Heap) (l1 l2 : Addr) : Heap := (zh4 b1 b2 h l1 l2).push { cls := .type "zip", data := .fields #[.none, .bool false, .bool false, .ref (zh2 b1 b2 h l1 l2).objs.size, .ref (zh3 b1 b2 h l1 l2).objs.size] }
theorem SO.push {b : Bool} {h : Heap} {l : Addr} {xs : Array Value} (x : SO b h l xs) (o : Obj) : SO b (h.push o) l xs := let ⟨u, e, r⟩ := x; ⟨u, Heap.get?_push_of_some _ e, r⟩
theorem meets_zipN (b1 b2 : Bool) (l1 l2 : Addr) (xs ys : Array Value) :
    Meets (Builtin.«zip.__new__» ⟨[.type "zip", .ref l1, .ref l2], []⟩) (fun _ R s => SO b1 s.heap l1 xs ∧ SO b2 s.heap l2 ys ∧ R (.ok (.ret (.ref (zh4 b1 b2 s.heap l1 l2).objs.size))) { s with heap := zh5 b1 b2 s.heap l1 l2 }) :=
  .of_wp fun prog w A R s h => by
    obtain ⟨hp, gg, dd, tk, os⟩ := s
    obtain ⟨ha, hb, h⟩ := h
    have hsub := sub_zip
    have f1 : SO b1 (Shared.heap ⟨hp, gg, dd, tk, os⟩) l1 xs := ha
    have f2 : SO b2 (Shared.heap ⟨hp.push { cls := .type (itN b1), data := .fields #[.ref l1, .int 0 0] }, gg, dd, tk, os⟩) l2 ys := SO.push hb _
    wp_walk using pyIter_sq f1, pyIter_sq f2
    exact ⟨_, rfl, h⟩
end DL
set_option maxRecDepth 100000
set_option maxHeartbeats 4000000
namespace DL
open PySem PySem.Spec PyProof.Rows L2
variable [Lam]
section
variable {X : Cx} {pins : List (Addr × Obj)} {σ : St} {H : Hp} {s : Shared} {h' : Heap}
theorem turnedL {fp : List Addr} {t' : Nat} (I : Inv X pins σ H s) (hf : ∀ b ∈ fp, FpOk X pins H b) (k : ∀ b o, b ∉ fp → s.heap.get? b = some o → h'.get? b = some o) : Inv X pins σ H { s with heap := h', toks := t' } := by
  have nin : ∀ b u, H b = some u → b ∉ fp := fun b u e hb => by rw [(hf b hb).1] at e; cases e
  refine I.step (g' := s.gens) (d' := s.drawn) (ch := fp) (fun b hb => ?_) (fun b o _ _ hc e _ => k b o hc e) (fun b o _ _ hc e _ => ⟨o.slots, k b o hc e⟩) (fun _ _ _ _ n => n)
    (fun b o hc e => ⟨o, k b o hc e⟩) (fun _ _ e => e) (fun _ _ _ e => e) (fun b ps e => ⟨#[], by rw [e]; simp⟩) (fun m hm => ?_) (fun b u e => ?_) I.bare
  · obtain ⟨_, f1, _, f3, f4, f5⟩ := hf b hb
    exact ⟨f3, f1, f4, f5⟩
  · obtain ⟨o, es, ep, ho, r⟩ := hm
    exact ⟨o, es, ep, k _ o (fun z => (hf _ z).2.1 rfl) ho, r⟩
  · refine (I.hok b u e).stay (fun c v hc q => k c v ?_ q) (fun _ q => q) fun _ _ q => q
    rcases hc with z | z
    · rw [z]; exact nin b u e
    · exact nin c _ z
theorem adopt {p : Addr} {o : HO} (I : Inv X pins σ H s) (f : FpOk X pins H p) (new : ObjOk X.prog X.w (upd H p o) s.heap p o) : Inv X pins σ (upd H p o) s := by
  have hp := f.1
  obtain ⟨_, f1, _, f3, f4, f5⟩ := f
  have ne : ∀ {b : Addr} {u : HO}, H b = some u → upd H p o b = some u := fun {b u} e => by rw [upd_ne (ne_of_none e hp)]; exact e
  refine I.step (h' := s.heap) (g' := s.gens) (t' := s.toks) (d' := s.drawn) (ch := [p]) (fun b hb => ?_) (fun b o _ _ hc e _ => e) (fun b o _ _ hc e _ => ⟨o.slots, e⟩) (fun b o hc e n => ?_)
    (fun b o hc e => ⟨o, e⟩) (fun _ _ e => ne e) (fun _ _ _ e => ne e) (fun b ps e => ⟨#[], by rw [ne e]; simp⟩) (fun m hm => hm) (fun b u e => ?_) I.bare
  · obtain rfl : b = p := by simpa using hb
    exact ⟨f3, f1, f4, f5⟩
  · rw [upd_ne (fun z => hc (by simp [z]))]; exact n
  · by_cases hb : b = p
    · subst hb; rw [upd_same] at e; cases e; exact new
    · rw [upd_ne hb] at e
      exact (I.hok b u e).stay (fun c v _ q => q) (fun c q => ne q) fun c xs q => ne q
def Sq : Bool → Frag → Hp → Addr → List V → Prop
  | true => SqL
  | false => SqT
theorem sq_so {b : Bool} {a : Addr} {xs : List V} (I : Inv X pins σ H s) (h : Sq b X.K H a xs) : ∃ its : List Value, Vals xs its ∧ SO b s.heap a its.toArray := by
  cases b with
  | true => obtain ⟨its, r, ⟨o, n, e, c, _, d⟩, _⟩ := I.list h; exact ⟨its, r, o, e, c, n, d⟩
  | false => obtain ⟨its, r, ⟨o, e, c, n, d⟩, _⟩ := I.tuple h; exact ⟨its, r, o, e, c, n, d⟩
theorem sq_inj {b : Bool} {a : Addr} {xs ys : List V} (I : Inv X pins σ H s) (h : Sq b X.K H a xs) (h' : Sq b X.K H a ys) : xs = ys := by
  cases b with
  | true => exact I.list_inj h h'
  | false => exact I.tuple_inj h h'
theorem sq_same {b : Bool} {K : Frag} {F H : Hp} {a : Addr} {xs : List V} (e : Same F H) (h : Sq b K F a xs) : Sq b K H a xs := by
  cases b with
  | true => exact e.seq h
  | false => exact same_seqT e h
theorem sq_off {b : Bool} {a c : Addr} {xs : List V} (I : Inv X pins σ H s) (h : Sq b X.K H a xs) (f : FpOk X pins H c) : a ≠ c := by
  obtain ⟨f0, f1, f2, f3, _⟩ := f
  have inK : ∀ {o : Obj}, X.K.lookup a = some o → a ≠ c := fun {o} hk z => by
    subst z
    have hb : X.base.get? a = some o := I.mod.kin a o hk
    rcases f3 with q | q
    · exact I.ok.noex a o hb q
    · exact absurd (Nat.lt_of_lt_of_le (Heap.lt_size hb) (Nat.le_trans I.ok.bsz q)) (Nat.lt_irrefl _)
  have trk : ∀ {u : HO}, H a = some u → a ≠ c := fun {u} e z => by subst z; rw [f0] at e; cases e
  cases b with
  | true =>
    rcases h with (h | ⟨o, h⟩) | ⟨o, its, n, hk, _⟩
    · exact trk h
    · exact trk h
    · exact inK hk
  | false =>
    rcases h with (h | ⟨o, h⟩) | ⟨o, its, n, hk, _⟩
    · exact trk h
    · exact trk h
    · exact inK hk
end
def Itz (K : Frag) (b1 : Bool) (a1 : Addr) (b2 : Bool) (a2 : Addr) : It :=
  ⟨fun i H => ∃ xs ys x y, Sq b1 K H a1 xs ∧ Sq b2 K H a2 ys ∧ xs[i]? = some x ∧ ys[i]? = some y,
   fun i H v H' => ∃ p x y, H p = none ∧ (∀ xs, Sq b1 K H a1 xs → xs[i]? = some x) ∧ (∀ ys, Sq b2 K H a2 ys → ys[i]? = some y) ∧ v = .ref p ∧ H' = upd H p (.tup [x, y]),
   fun i H => ∃ xs ys, Sq b1 K H a1 xs ∧ Sq b2 K H a2 ys ∧ (xs.length ≤ i ∨ ys.length ≤ i)⟩
theorem turn_zip {P : Program} {w : World} {K : Frag} {elts : List Expr} {x1} {tp : Pos} {b1 b2 : Bool} {a1 a2 z ti to i1 i2 : Addr} (D : Z5 z ti to i1 i2) :
    Turn P w K (.Tuple elts x1 tp) (Itz K b1 a1 b2 a2) [z, ti, to, i1, i2] z
      (fun i h => IsZip h z ti to .none ∧ IsPair h ti (.ref i1) (.ref i2) ∧ (∃ p q, IsPair h to p q) ∧ SI b1 h i1 a1 i ∧ SI b2 h i2 a2 i) where
  mem := by simp
  obj := fun i h ⟨c1, c2, ⟨p, q, c3⟩, ⟨o4, c4, _, d4⟩, ⟨o5, c5, _, d5⟩⟩ b hb => by
    simp only [List.mem_cons, List.not_mem_nil, or_false] at hb
    rcases hb with rfl | rfl | rfl | rfl | rfl
    · exact ⟨_, c1, fun v z => by cases z⟩
    · exact ⟨_, c2, fun v z => by cases z⟩
    · exact ⟨_, c3, fun v z => by cases z⟩
    · exact ⟨_, c4, fun v z => by rw [d4] at z; cases z⟩
    · exact ⟨_, c5, fun v z => by rw [d5] at z; cases z⟩
  keep := fun i h h' ⟨c1, c2, ⟨p, q, c3⟩, c4, c5⟩ k => ⟨k _ (by simp) _ c1, k _ (by simp) _ c2, ⟨p, q, k _ (by simp) _ c3⟩, c4.keep fun o e => k _ (by simp) o e, c5.keep fun o e => k _ (by simp) o e⟩
  item := by
    intro X hP hw hK hc i pins s σ H E I hf st hg
    subst hP hw hK
    obtain ⟨xs, ys, x, y, q1, q2, hx, hy⟩ := hg
    obtain ⟨its1, v1, o1⟩ := sq_so I q1
    obtain ⟨its2, v2, o2⟩ := sq_so I q2
    obtain ⟨u1, hu1, ru1⟩ := v1.get hx
    obtain ⟨u2, hu2, ru2⟩ := v2.get hy
    obtain ⟨c1, c2, ⟨p, q, c3⟩, c4, c5⟩ := st
    have off : ∀ {b : Bool} {a : Addr} {ws : List V}, Sq b X.K H a ws → Off a z to i1 i2 := fun h => ⟨sq_off I h (hf _ (by simp)), sq_off I h (hf _ (by simp)), sq_off I h (hf _ (by simp)), sq_off I h (hf _ (by simp))⟩
    refine pyNext_zip D (off q1) (off q2) c1 c2 c3 c4 c5 o1 o2 (x := u1) (y := u2) (by simpa using hu1) (by simpa using hu2) fun g n1 n2 n3 n4 n5 n6 n7 => ?_
    refine ⟨_, rfl, wpAny_letOwnedTupleGo_zip n1 fun g2 m1 sb => ?_⟩
    have hsz : z < s.heap.objs.size := Heap.lt_size c1
    have kp : ∀ c o, c ∉ [z, ti, to, i1, i2] → s.heap.get? c = some o → g2.get? c = some o := fun c o hc e => by
      simp only [List.mem_cons, List.not_mem_nil, or_false, not_or] at hc
      exact sb.extBut _ _ hc.1 (n7 c o hc.1 hc.2.2.1 hc.2.2.2.1 hc.2.2.2.2 e)
    have I1 : Inv X pins σ H { s with heap := g2 } := turnedL (t' := s.toks) I hf kp
    have fp : FpOk X pins H s.heap.objs.size := I.fpOk (Nat.le_refl _) I.fresh
    have hT : IsPair g2 s.heap.objs.size u1 u2 := sb.extBut _ _ (Nat.ne_of_gt hsz) n5
    have I2 : Inv X pins σ (upd H s.heap.objs.size (.tup [x, y])) { s with heap := g2 } :=
      adopt I1 fp ⟨by show 2 ≤ sizeLine; decide, [u1, u2], .cons ru1 (.cons ru2 .nil), ⟨_, hT, rfl, _, rfl⟩⟩
    refine ⟨.ref s.heap.objs.size, _, I2, rfl, ⟨_, x, y, I.fresh, fun ws h => ?_, fun ws h => ?_, rfl, rfl⟩, ⟨m1, ?_, ⟨u1, u2, sb.extBut _ _ D.a2 n2⟩, n3.ext sb.extBut D.a3, n4.ext sb.extBut D.a4⟩, fun b hb => ?_⟩
    · rw [sq_inj I h q1]; exact hx
    · rw [sq_inj I h q2]; exact hy
    · exact sb.extBut _ _ D.a1 (n7 _ _ D.a1 D.a5 D.a6 D.a7 c2)
    · have hb0 := (hf b hb).1
      have : b ≠ s.heap.objs.size := by
        simp only [List.mem_cons, List.not_mem_nil, or_false] at hb
        rcases hb with rfl | rfl | rfl | rfl | rfl
        · exact Nat.ne_of_lt hsz
        · exact Nat.ne_of_lt (Heap.lt_size c2)
        · exact Nat.ne_of_lt (Heap.lt_size c3)
        · obtain ⟨_, e, _⟩ := c4; exact Nat.ne_of_lt (Heap.lt_size e)
        · obtain ⟨_, e, _⟩ := c5; exact Nat.ne_of_lt (Heap.lt_size e)
      rw [upd_ne this]; exact hb0
  done := by
    intro X hP hw hK hc i pins s σ H E I hf st hg
    subst hP hw hK
    obtain ⟨xs, ys, q1, q2, hend⟩ := hg
    obtain ⟨its1, v1, o1⟩ := sq_so I q1
    obtain ⟨its2, v2, o2⟩ := sq_so I q2
    obtain ⟨c1, c2, ⟨p, q, c3⟩, c4, c5⟩ := st
    have off : ∀ {b : Bool} {a : Addr} {ws : List V}, Sq b X.K H a ws → Off a z to i1 i2 := fun h => ⟨sq_off I h (hf _ (by simp)), sq_off I h (hf _ (by simp)), sq_off I h (hf _ (by simp)), sq_off I h (hf _ (by simp))⟩
    refine pyNext_zipEnd (I.ok.hd hc) D (off q1) (off q2) c1 c2 c3 c4 c5 o1 o2 ?_ fun g n7 => ⟨rfl, turnedL (t' := s.toks) I hf fun c o hc e => ?_⟩
    · have l1 := v1.length
      have l2 := v2.length
      rcases hend with h | h
      · exact .inl (by simp; lia)
      · exact .inr (by simp; lia)
    · simp only [List.mem_cons, List.not_mem_nil, or_false, not_or] at hc
      exact n7 c o hc.1 hc.2.2.1 hc.2.2.2.1 hc.2.2.2.2 e
  self := fun A i s Q E st h => wpAny_pyIter_zip st.1 h
def zipD (xs ys : List D) : List D := List.zipWith (fun a b => .tup [a, b]) xs ys
theorem itd_zip {K : Frag} {F : Hp} {b1 b2 : Bool} {a1 a2 : Addr} {xs ys : List V} {ds es : List D} (h1 : Sq b1 K F a1 xs) (h2 : Sq b2 K F a2 ys) (r1 : RepL K F ds xs) (r2 : RepL K F es ys) : ItD K F (zipD ds es) (Itz K b1 a1 b2 a2) where
  go := fun i F' H s1 s2 hi => by
    have hi' : i < ds.length ∧ i < es.length := by unfold zipD at hi; rw [List.length_zipWith] at hi; lia
    exact ⟨xs, ys, xs[i]'(by rw [← r1.length]; exact hi'.1), ys[i]'(by rw [← r2.length]; exact hi'.2), sq_same (s1.trans s2) h1, sq_same (s1.trans s2) h2, by simp, by simp⟩
  yld := fun i d F' H x H' s1 s2 hi ⟨p, x1, y1, hp, q1, q2, e1, e2⟩ => by
    subst e1 e2
    unfold zipD at hi
    rw [List.getElem?_zipWith] at hi
    cases z1 : ds[i]? with
    | none => rw [z1] at hi; cases hi
    | some d1 =>
      cases z2 : es[i]? with
      | none => rw [z1, z2] at hi; cases hi
      | some d2 =>
        rw [z1, z2] at hi
        cases hi
        obtain ⟨v1, k1, k2⟩ := r1.get z1
        obtain ⟨v2, k3, k4⟩ := r2.get z2
        have w1 := q1 xs (sq_same (s1.trans s2) h1)
        have w2 := q2 ys (sq_same (s1.trans s2) h2)
        rw [k1] at w1; cases w1
        rw [k3] at w2; cases w2
        have gn : Grow F' H (upd F' p (.tup [x1, y1])) (upd H p (.tup [x1, y1])) := Grow.new s2 hp
        exact ⟨_, gn, rep_tup.mpr ⟨p, _, rfl, SqT.of upd_same, .cons ((k2.mono s1).mono gn.ff) (.cons ((k4.mono s1).mono gn.ff) .nil)⟩⟩
  stop := fun i F' H s1 s2 hi => by
    unfold zipD at hi
    rw [List.length_zipWith] at hi
    refine ⟨xs, ys, sq_same (s1.trans s2) h1, sq_same (s1.trans s2) h2, ?_⟩
    rw [← r1.length, ← r2.length]
    lia
section
variable {X : Cx} {pos : Pos} {elts : List Expr} {x1 : Nat} {tp : Pos}
def wZip (K : Frag) (ta : TA) : TI := fun σ H R => ta σ H fun vs H1 => ∃ b1 a1 xs b2 a2 ys, vs = [.ref a1, .ref a2] ∧ Sq b1 K H1 a1 xs ∧ Sq b2 K H1 a2 ys ∧ R (Itz K b1 a1 b2 a2) H1
theorem boot_zip' : bootBuiltins "zip" = some (.type "zip") := by decide +kernel
theorem pi_zip {a b : Expr} {ta : TA} {p : Pos} (hg : Gl X "zip") (hm : X.mg "zip" = none) (ha : PA X [a, b] ta) (hs : starEach [a, b] X.env = [(false, eval a X.env), (false, eval b X.env)] := by rfl) (hs2 : starEach [b] X.env = [(false, eval b X.env)] := by rfl) :
    PI X (.Tuple elts x1 tp) (.Call (.Name "zip" p) [a, b] [] pos) (wZip X.K ta) := by
  intro pins s σ H R I h
  refine Call_ (ld_blt I hg hm boot_zip' (PyProof.Rows.callWith_type1 (thn (ha pos pins s σ H _ I h) fun us s1 ⟨vs, H1, I1, r1, q1⟩ => ?_) (by rw [hs, hs2]) (by rw [hs2]; rfl)))
  obtain ⟨b1, a1, xs, b2, a2, ys, rfl, k1, k2, q⟩ := q1
  obtain ⟨u1, u2, rfl, e1, e2⟩ := r1.two
  cases e1
  cases e2
  obtain ⟨its1, v1, o1⟩ := sq_so I1 k1
  obtain ⟨its2, v2, o2⟩ := sq_so I1 k2
  refine callType_new F.called_zip (by decide) (F.typeCall_zip_2 _ _) (F.newCall_zip_2 _ _) (fun obj => F.args_object_init_3 obj _ _) F.entry_zip_new (meets_zipN b1 b2 a1 a2 its1.toArray its2.toArray) ⟨o1, o2, ?_⟩
  have z1 : (zh1 b1 s1.heap a1).objs.size = s1.heap.objs.size + 1 := Heap.size_push ..
  have z2 : (zh2 b1 b2 s1.heap a1 a2).objs.size = s1.heap.objs.size + 2 := by unfold zh2; rw [Heap.size_push, z1]
  have z3 : (zh3 b1 b2 s1.heap a1 a2).objs.size = s1.heap.objs.size + 3 := by unfold zh3; rw [Heap.size_push, z2]
  have z4 : (zh4 b1 b2 s1.heap a1 a2).objs.size = s1.heap.objs.size + 4 := by unfold zh4; rw [Heap.size_push, z3]
  have g5 : (zh5 b1 b2 s1.heap a1 a2).get? (zh4 b1 b2 s1.heap a1 a2).objs.size = some { cls := .type "zip", data := .fields #[.none, .bool false, .bool false, .ref (zh2 b1 b2 s1.heap a1 a2).objs.size, .ref (zh3 b1 b2 s1.heap a1 a2).objs.size] } := Heap.get?_push_size _ rfl
  have g4 : (zh5 b1 b2 s1.heap a1 a2).get? (zh3 b1 b2 s1.heap a1 a2).objs.size = some { cls := .type "tuple", data := .seq #[.none, .none] } := Heap.get?_push_of_some _ (Heap.get?_push_size _ rfl)
  have g3 : (zh5 b1 b2 s1.heap a1 a2).get? (zh2 b1 b2 s1.heap a1 a2).objs.size = some { cls := .type "tuple", data := .seq #[.ref s1.heap.objs.size, .ref (zh1 b1 s1.heap a1).objs.size] } := Heap.get?_push_of_some _ (Heap.get?_push_of_some _ (Heap.get?_push_size _ rfl))
  have g2 : (zh5 b1 b2 s1.heap a1 a2).get? (zh1 b1 s1.heap a1).objs.size = some { cls := .type (itN b2), data := .fields #[.ref a2, .int 0 0] } := Heap.get?_push_of_some _ (Heap.get?_push_of_some _ (Heap.get?_push_of_some _ (Heap.get?_push_size _ rfl)))
  have g1 : (zh5 b1 b2 s1.heap a1 a2).get? s1.heap.objs.size = some { cls := .type (itN b1), data := .fields #[.ref a1, .int 0 0] } := Heap.get?_push_of_some _ (Heap.get?_push_of_some _ (Heap.get?_push_of_some _ (Heap.get?_push_of_some _ (Heap.get?_push_size _ rfl))))
  have kp : ∀ c o, s1.heap.get? c = some o → (zh5 b1 b2 s1.heap a1 a2).get? c = some o := fun c o e => Heap.get?_push_of_some _ (Heap.get?_push_of_some _ (Heap.get?_push_of_some _ (Heap.get?_push_of_some _ (Heap.get?_push_of_some _ e))))
  have I2 : Inv X pins σ H1 { s1 with heap := zh5 b1 b2 s1.heap a1 a2 } := I1.kept (t' := s1.toks) kp
  refine ⟨⟨_, g5, rfl⟩, wpAny_pyIter_zip g5 ?_⟩
  refine ⟨_, _, _, _, H1, rfl, I2, turn_zip (b1 := b1) (b2 := b2) (a1 := a1) (a2 := a2) (i1 := s1.heap.objs.size) (i2 := (zh1 b1 s1.heap a1).objs.size) ?_, ⟨g5, g3, ⟨_, _, g4⟩, ⟨_, g1, rfl, rfl⟩, ⟨_, g2, rfl, rfl⟩⟩, fun c hc => ?_, q⟩
  · constructor <;> (first | exact Nat.ne_of_lt (by lia) | exact Nat.ne_of_gt (by lia))
  · have hge : s1.heap.objs.size ≤ c := by
      simp only [List.mem_cons, List.not_mem_nil, or_false] at hc
      rcases hc with rfl | rfl | rfl | rfl | rfl <;> lia
    exact I1.fpOk hge (I1.hok.fresh hge)
def iZip (fa : FA) : FA := fun ρ => (fa ρ).bind fun ds => match ds with
  | [x, y] => (seqD x).bind fun xs => (seqD y).map fun ys => zipD xs ys
  | _ => none
theorem seqD_sq {K : Frag} {F : Hp} {d : D} {ds : List D} {v : V} (h : seqD d = some ds) (r : Rep K F d v) : ∃ b a xs, v = .ref a ∧ Sq b K F a xs ∧ RepL K F ds xs := by
  cases d <;> simp only [seqD] at h <;> first | (cases h; done) | skip
  · cases h
    obtain ⟨a, xs, rfl, h3, h4⟩ := rep_tup.mp r
    exact ⟨false, a, xs, rfl, h3, h4⟩
  · cases h
    obtain ⟨a, xs, rfl, h3, h4⟩ := rep_lst.mp r
    exact ⟨true, a, xs, rfl, h3, h4⟩
theorem id_zip {a b : Expr} {fa : FA} {p : Pos} (hg : Gl X "zip") (hm : X.mg "zip" = none) (ha : PA X [a, b] (tDA X.K fa)) (hs : starEach [a, b] X.env = [(false, eval a X.env), (false, eval b X.env)] := by rfl) (hs2 : starEach [b] X.env = [(false, eval b X.env)] := by rfl) :
    PI X (.Tuple elts x1 tp) (.Call (.Name "zip" p) [a, b] [] pos) (tDI X.K (iZip fa)) := pi_imp (pi_zip hg hm ha hs hs2) fun σ H R ⟨F0, H0, F, ρ, ds, r, hf, q⟩ => by
  obtain ⟨es, h1, h2⟩ := Option.bind_eq_some_iff.mp hf
  refine ⟨F0, H0, F, ρ, es, r, h1, fun vs F' H' g' r' => ?_⟩
  split at h2
  · rename_i x y
    obtain ⟨xs, k1, h2⟩ := Option.bind_eq_some_iff.mp h2
    obtain ⟨ys, k2, h2⟩ := Option.map_eq_some_iff.mp h2
    subst h2
    obtain ⟨v1, t, rfl, e1, e2⟩ := r'.cons_inv
    obtain ⟨v2, t2, rfl, e3, e4⟩ := e2.cons_inv
    cases e4.nil_inv
    obtain ⟨b1, a1, us, rfl, s1, l1⟩ := seqD_sq k1 e1
    obtain ⟨b2, a2, ws, rfl, s2, l2⟩ := seqD_sq k2 e3
    exact ⟨b1, a1, us, b2, a2, ws, rfl, sq_same g'.fh s1, sq_same g'.fh s2, q _ F' H' g' (itd_zip s1 s2 l1 l2)⟩
  · cases h2
end
end DL
set_option maxRecDepth 100000
set_option maxHeartbeats 4000000
namespace DL
open PySem PySem.Spec PyProof.Rows L2
variable [Lam]
section
variable {X : Cx} {e : Expr} {es : List Expr} {kws : List Keyword} {pos : Pos} {f g : FE} {fa fk : FA}
end
structure Cal (P : Program) (w : World) (K : Frag) (mg : Str → Option Value) (base : Heap) (x : Str) (k : Nat) (ps : List Str) (ar : Nat) (op : List D → Option D) (fn : Addr) (fd : FuncData) : Prop where
  ok : FnOk P w K mg base CX0 k fn fd ps (spD K ar op)
  mg : mg x = some (.ref fn)
  kp : PySem.W.keepIn K (.ref fn) = true
section
variable {X : Cx} {e : Expr} {es : List Expr} {kws : List Keyword} {pos p : Pos} {fa fk : FA} {k ar k' : Nat} {fn : Addr} {fd : FuncData} {ps ks : List Str} {op : List D → Option D} {x : Str}
theorem pd_cal (C : Cal X.prog X.w X.K X.mg X.base x k ps ar op fn fd) (b : Binds X.K fd ps []) (hr : Room k' X.A) (hk : k ≤ k') (hg : Gl X x) (ha : PA X (e :: es) (tDA X.K fa)) (hdb : (x == ("__debug__" : Str)) = false := by decide)
    (he : starEach (e :: es) X.env = (false, eval e X.env) :: starEach es X.env := by rfl) (hpl : (backTo pos (starEach es X.env)).any (·.1) = false := by rfl) : PE X (.Call (.Name x p) (e :: es) [] pos) (tD X.K (eCall (callD ar [] op) fa)) :=
  pd_call C.ok (hr.mono hk) hg C.mg C.kp b .nil (fun H => .nil) ha hdb he hpl
def oNeg : D → Option D
  | .int i => some (.int (-i))
  | _ => none
theorem pd_neg {f : FE} (ha : PE X e (tD X.K f)) : PE X (.UnaryOp .USub e pos) (tD X.K (eUn oNeg f)) := by
  intro pins s σ H Q I h
  obtain ⟨F0, H0, F, ρ, d, r, hf, q⟩ := h
  obtain ⟨d', h1, h2⟩ := Option.bind_eq_some_iff.mp hf
  cases d' <;> simp only [oNeg] at h2 <;> first | (cases h2; done) | skip
  cases h2
  refine UnaryOp_ (thn (ha pins s σ H (fun v H' => ∃ F', Grow F H F' H' ∧ Rep X.K F' (.int _) v) I ⟨F0, H0, F, ρ, _, r, h1, fun v F' H' g' r' => ⟨F', g', r'⟩⟩) fun v s1 ⟨x, H1, I1, r1, F', g', r'⟩ => ?_)
  cases rep_int.mp r'
  obtain ⟨t, rfl⟩ := r1
  exact neg_int ⟨.int _, H1, I1.tok _, ⟨_, rfl⟩, q _ F' H1 g' (rep_int.mpr rfl)⟩
end
structure Fun2 (K : Frag) (x qual : Str) (st : Stmt) (dV : Value) (f : Addr) (fd : FuncData) : Prop where
  ex : ∃ (oc : Value) (od : Option Addr) (kV doc pm : Value) (an : Option Addr) (cdv ct : Value) (osl : Array (Option Value)),
    fd = PySem.W.fnOf x qual (defArgs st) (defBody st) (defScope st) dV kV doc pm an cdv ct ∧ K.lookup f = some ⟨oc, od, .func fd, osl⟩ ∧ PySem.W.codeIn K cdv qual = true
  kp : PySem.W.keepIn K (.ref f) = true
section
variable {P : Program} {w : World} {K : Frag} {mg : Str → Option Value} {base : Heap} {x qual : Str} {st : Stmt} {dV : Value} {f : Addr} {fd : FuncData} {N ps : List Str}
theorem Fun2.ok {k : Nat} {u : FS} (F : Fun2 K x qual st dV f fd) (S : FnScope N ps (defScope st))
    (hb : ∀ (cdv : Value) (A : Around) (outer : List Env) (s : Shared) (H : Hp) (E : XK), Room k (A.deeper (envOfC qual (defScope st) s.heap.objs.size f cdv)) → PSs (cxOf CX0 P w K mg base N qual (defScope st) f cdv A outer s H E).nox (defBody st) (tDS K u)) :
    FnOk P w K mg base CX0 (k + 1) f fd ps (spD K ps.length (runFn N.length u)) := by
  obtain ⟨oc, od, kV, doc, pm, an, cdv, ct, osl, rfl, lk, hcd⟩ := F.ex
  exact fn_ok lk hcd S fun A outer s H E hr => hb cdv A outer s H E hr
theorem Fun2.okn {k n ar k1 : Nat} {u : FS} (F : Fun2 K x qual st dV f fd) (S : FnScope N ps (defScope st)) (hn : N.length = n) (ha : ps.length = ar) (hk : k + 1 = k1)
    (hb : ∀ (cdv : Value) (A : Around) (outer : List Env) (s : Shared) (H : Hp) (E : XK), Room k (A.deeper (envOfC qual (defScope st) s.heap.objs.size f cdv)) → PSs (cxOf CX0 P w K mg base N qual (defScope st) f cdv A outer s H E).nox (defBody st) (tDS K u)) :
    FnOk P w K mg base CX0 k1 f fd ps (spD K ar (runFn n u)) := by
  subst hn ha hk
  exact F.ok S hb
theorem fun2_mk {oc : Value} {od an : Option Addr} {osl : Array (Option Value)} {kV doc pm cdv ct : Value} (l : K.lookup f = some ⟨oc, od, .func (PySem.W.fnOf x qual (defArgs st) (defBody st) (defScope st) dV kV doc pm an cdv ct), osl⟩)
    (c : PySem.W.codeIn K cdv qual = true) (k : PySem.W.keepIn K (.ref f) = true) : Fun2 K x qual st dV f (PySem.W.fnOf x qual (defArgs st) (defBody st) (defScope st) dV kV doc pm an cdv ct) := ⟨⟨oc, od, kV, doc, pm, an, cdv, ct, osl, rfl, l, c⟩, k⟩
theorem Fun2.bindsTo (F : Fun2 K x qual st dV f fd) {P : FuncData → Prop} (h : ∀ (kV doc pm : Value) (an : Option Addr) (cdv ct : Value), P (PySem.W.fnOf x qual (defArgs st) (defBody st) (defScope st) dV kV doc pm an cdv ct)) : P fd := by
  obtain ⟨oc, od, kV, doc, pm, an, cdv, ct, osl, rfl, lk, hcd⟩ := F.ex
  exact h kV doc pm an cdv ct
end
def spLaw (K : Frag) : Sp := fun vs H Q _ => ∃ (a : Addr) (ns : List Int) (F : Hp), vs = [.ref a] ∧ SameT F H ∧ SqL K F a (ns.map V.int) ∧ ns.length ≤ 63 ∧ ∀ H', Q (.bl true) H'
theorem law_of {P : Program} {w : World} {K : Frag} {mg : Str → Option Value} {base : Heap} {k : Nat} {f : Addr} {fd : FuncData} {x : Str} {op : List D → Option D} (F : FnOk P w K mg base CX0 k f fd [x] (spD K 1 op)) (h : ∀ ns : List Int, ns.length ≤ 63 → op [.lst (ns.map .int)] = some (.bl true)) :
    FnOk P w K mg base CX0 k f fd [x] (spLaw K) := F.imp fun vs H Q E ⟨a, ns, Fz, e, fz, hS, hl, q⟩ => by
  subst e
  exact ⟨Fz, [.lst (ns.map .int)], .bl true, fz, .cons (rep_lst.mpr ⟨a, _, rfl, hS, RepL.ints.mpr rfl⟩) .nil, rfl, h ns hl, fun v F' H' g' r' => by rw [rep_bl.mp r']; exact q H'⟩
end DL
set_option maxRecDepth 100000
set_option maxHeartbeats 4000000
namespace DL
open PySem PySem.Spec PyProof.Rows L2
variable [Lam]
section
variable {X : Cx} {pos : Pos} {f g : FE} {a b : Expr}
abbrev oLt' := oLt
theorem od_lt' : OpR X (compareOp .Lt) (rD X.K oLt') := od_lt
end
end DL
set_option maxRecDepth 100000
set_option maxHeartbeats 4000000
namespace DL
open PySem PySem.Spec PyProof.Rows L2
variable [Lam]
section
variable {X : Cx} {pos : Pos} {f g k : FE} {a b c : Expr}
end
end DL
set_option maxRecDepth 100000
set_option maxHeartbeats 4000000
namespace DL
open PySem PySem.Spec PyProof.Rows L2
variable [Lam]
theorem noFill_tup_mul : fillsNumberSlot (.type "tuple") "mul" = pure false :=
  PySem.fillsNumberSlot_seq (id := "tuple.__mul__") (r := some (.builtin "tuple.__rmul__")) F.slot_tuple_mul.lookup (by decide +kernel) F.slot_tuple_rmul.lookup (by decide +kernel)
theorem repeat_tup : seqRepeat? (.type "tuple") = pure (some (.builtin "tuple.__mul__")) := by
  unfold seqRepeat?
  rw [PySem.seqSlot_of (T := "tuple") (name := "__mul__") F.slot_tuple_mul.lookup (by decide +kernel), PySem.seqSlot_of (T := "tuple") (name := "__rmul__") F.slot_tuple_rmul.lookup (by decide +kernel)]
  rfl
theorem rmul_tup (i : Int) (t : Tok) (l : Addr) (xs : Array Value) (n : Nat) (dd : Option Addr) (sl : Array (Option Value)) :
    Meets (Builtin.«int.__rmul__» ⟨[.int i t, .ref l], []⟩) (fun _ R s => s.heap.get? l = some { cls := .type "tuple", dict := dd, data := .seq xs n, slots := sl } ∧ R (.ok (.ret Value.notImplemented)) s) :=
  .of_wp fun prog w A R s h => by
    obtain ⟨hp, g, d, tk, os⟩ := s
    obtain ⟨hl, h⟩ := h
    wp_walk
    exact ⟨_, rfl, h⟩
theorem mul_tup_same (i : Int) (t : Tok) (l : Addr) (xs : Array Value) (n : Nat) (dd : Option Addr) (sl : Array (Option Value)) (h0 : ¬ (decide (i < -(2 ^ 63)) || decide (i ≥ 2 ^ 63)) = true) (h1 : (xs.isEmpty || i == 1) = true) :
    Meets (Builtin.«tuple.__mul__» ⟨[.ref l, .int i t], []⟩) (fun _ R s => s.heap.get? l = some { cls := .type "tuple", dict := dd, data := .seq xs n, slots := sl } ∧ R (.ok (.ret (.ref l))) s) :=
  .of_wp fun prog w A R s h => by
    obtain ⟨hp, g, d, tk, os⟩ := s
    obtain ⟨hl, h⟩ := h
    have f1 := AutoSeq1.idx_int
    have f2 := AutoSeq1.sub_tuple_tuple
    wp_walk using AutoSeq1.wpAny_loadPart' hl
    refine wpAny_ite_false (decide_eq_false h0) ?_
    wp_walk using AutoSeq1.wpAny_loadPart' hl
    exact ⟨_, rfl, h⟩
theorem mul_tup_none (i : Int) (t : Tok) (l : Addr) (xs : Array Value) (n : Nat) (dd : Option Addr) (sl : Array (Option Value)) (h0 : ¬ (decide (i < -(2 ^ 63)) || decide (i ≥ 2 ^ 63)) = true) (h1 : ¬ (xs.isEmpty || i == 1) = true) (h2 : (decide (i ≤ 0) || xs.isEmpty) = true) :
    Meets (Builtin.«tuple.__mul__» ⟨[.ref l, .int i t], []⟩) (fun _ R s => s.heap.get? l = some { cls := .type "tuple", dict := dd, data := .seq xs n, slots := sl } ∧ R (.ok (.ret (.ref s.heap.objs.size))) { s with heap := s.heap.push { cls := .type "tuple", data := .seq #[] } }) :=
  .of_wp fun prog w A R s h => by
    obtain ⟨hp, g, d, tk, os⟩ := s
    obtain ⟨hl, h⟩ := h
    have f1 := AutoSeq1.idx_int
    have f2 := AutoSeq1.sub_tuple_tuple
    wp_walk using AutoSeq1.wpAny_loadPart' hl
    refine wpAny_ite_false (decide_eq_false h0) ?_
    wp_walk using AutoSeq1.wpAny_loadPart' hl
    exact ⟨_, rfl, h⟩
theorem mul_tup_many (i : Int) (t : Tok) (l : Addr) (xs : Array Value) (n : Nat) (dd : Option Addr) (sl : Array (Option Value)) (h0 : ¬ (decide (i < -(2 ^ 63)) || decide (i ≥ 2 ^ 63)) = true) (h1 : ¬ (xs.isEmpty || i == 1) = true) (h2 : ¬ (decide (i ≤ 0) || xs.isEmpty) = true)
    (h3 : ¬ ((xs.size : Int) * i > (2 ^ 63 - 1) / 8)) (h4 : ¬ Builtin.Tuple.tupleTooMany ((xs.size : Int) * i) = true) (h5 : ((List.replicate i.toNat xs).foldl (· ++ ·) #[]).size ≤ sizeLine) :
    Meets (Builtin.«tuple.__mul__» ⟨[.ref l, .int i t], []⟩) (fun _ R s => s.heap.get? l = some { cls := .type "tuple", dict := dd, data := .seq xs n, slots := sl } ∧ R (.ok (.ret (.ref s.heap.objs.size))) { s with heap := s.heap.push { cls := .type "tuple", data := .seq ((List.replicate i.toNat xs).foldl (· ++ ·) #[]) } }) :=
  .of_wp fun prog w A R s h => by
    obtain ⟨hp, g, d, tk, os⟩ := s
    obtain ⟨hl, h⟩ := h
    have f1 := AutoSeq1.idx_int
    have f2 := AutoSeq1.sub_tuple_tuple
    wp_walk using AutoSeq1.wpAny_loadPart' hl
    refine wpAny_ite_false (decide_eq_false h0) ?_
    wp_walk using AutoSeq1.wpAny_loadPart' hl
    refine wpAny_ite_false (decide_eq_false h3) ?_
    wp_walk using AutoSeq1.wpAny_loadPart' hl
    exact ⟨_, rfl, h⟩
theorem fold_rep (xs : Array Value) : ∀ (n : Nat) (acc : Array Value), ((List.replicate n xs).foldl (· ++ ·) acc).toList = acc.toList ++ (List.replicate n xs.toList).flatten
  | 0, acc => by simp
  | n + 1, acc => by
    rw [List.replicate_succ, List.foldl_cons, fold_rep xs n (acc ++ xs), List.replicate_succ, List.flatten_cons, Array.toList_append, List.append_assoc]
theorem fold_rep0 (xs : List Value) (n : Nat) : (List.replicate n xs.toArray).foldl (· ++ ·) #[] = (List.replicate n xs).flatten.toArray := by
  apply Array.toList_inj.mp
  rw [fold_rep]; simp
section
variable {prog : Program} {w : World} {A : Around} {E : Value → Shared → Prop} {s : Shared}
theorem mul_tup {t : Addr} {vs : List Value} {i : Int} {u : Tok} {Q : Value → Shared → Prop} (ht : IsTup s.heap t vs.toArray) (h0 : -(2 ^ 62) < i) (h1 : i < 2 ^ 62) (hz : vs.length * i.toNat ≤ 1000000)
    (q1 : (vs = [] ∨ i = 1) → Q (.ref t) s) (q2 : ¬ (vs = [] ∨ i = 1) → Q (.ref s.heap.objs.size) { s with heap := s.heap.push { cls := .type "tuple", data := .seq (List.replicate i.toNat vs).flatten.toArray } }) :
    wpAny (model prog w) A (binaryOp .Mult (.ref t) (.int i u)) Q E s := by
  obtain ⟨⟨cls, dd, data, sl⟩, ho, hc, n, hd⟩ := id ht
  simp only at hc hd
  subst hc hd
  have ty : s.TypeIs (.ref t) "tuple" := ⟨_, ho, rfl⟩
  have b0 : ¬ (decide (i < -(2 ^ 63)) || decide (i ≥ 2 ^ 63)) = true := by
    simp only [Bool.or_eq_true, decide_eq_true_eq, not_or]
    constructor <;> lia
  refine wpAny_binaryOp_repeat_ref (T := "tuple") (U := "int") (by decide) ty (fun s' => typeIs_int s' i u) noFill_tup_mul F.fills_int_mul F.slot_int_rmul repeat_tup F.slot_int_index.lookup
    (call_meets F.slot_int_rmul (typeIs_int s i u) F.entry_int_rmul (F.args_int_rmul_2 _ _) (rmul_tup i u t vs.toArray n dd sl) ⟨ho, rfl, ty, ?_⟩)
  have em : vs.toArray.isEmpty = true ↔ vs = [] := by simp
  by_cases c1 : (vs.toArray.isEmpty || i == 1) = true
  · have c1' : vs = [] ∨ i = 1 := by simpa using c1
    exact call_meets F.slot_tuple_mul ty F.entry_tuple_mul (F.args_tuple_mul_2 _ _) (mul_tup_same i u t vs.toArray n dd sl b0 c1) ⟨ho, q1 c1'⟩
  · have c1' : ¬ (vs = [] ∨ i = 1) := by simpa using c1
    have q := q2 c1'
    by_cases c2 : (decide (i ≤ 0) || vs.toArray.isEmpty) = true
    · have i0 : i ≤ 0 := by
        rcases Bool.or_eq_true _ _ ▸ c2 with z | z
        · exact of_decide_eq_true z
        · exact absurd (.inl (em.mp z)) c1'
      have e : (List.replicate i.toNat vs).flatten.toArray = #[] := by
        rw [show i.toNat = 0 by lia]; rfl
      rw [e] at q
      exact call_meets F.slot_tuple_mul ty F.entry_tuple_mul (F.args_tuple_mul_2 _ _) (mul_tup_none i u t vs.toArray n dd sl b0 c1 c2) ⟨ho, q⟩
    · have c2' : 0 < i := by
        have : ¬ i ≤ 0 := fun z => c2 (by rw [decide_eq_true z]; rfl)
        lia
      have ei : (vs.toArray.size : Int) * i = ((vs.length * i.toNat : Nat) : Int) := by
        rw [Int.natCast_mul, Int.toNat_of_nonneg (by lia), List.size_toArray]
      have el : (List.replicate i.toNat vs).flatten.length = vs.length * i.toNat := by
        rw [List.length_flatten, List.map_replicate, List.sum_replicate_nat, Nat.mul_comm]
      rw [← fold_rep0] at q
      refine call_meets F.slot_tuple_mul ty F.entry_tuple_mul (F.args_tuple_mul_2 _ _) (mul_tup_many i u t vs.toArray n dd sl b0 c1 c2 ?_ ?_ ?_) ⟨ho, q⟩
      · rw [ei]; lia
      · rw [ei]
        unfold Builtin.Tuple.tupleTooMany
        have : sizeLine = 16777216 := sizeLine_eq
        rw [this, decide_eq_true_eq]
        lia
      · rw [fold_rep0, List.size_toArray, el]
        exact lim_size hz
end
section
variable {X : Cx}
def oRep : D → D → Option D
  | .tup xs, .int n => if decide (-(2 ^ 62) < n) && decide (n < 2 ^ 62) && decide (xs.length * n.toNat ≤ lim) then some (.tup (List.replicate n.toNat xs).flatten) else none
  | _, _ => none
theorem vals_rep {xs : List V} {us : List Value} (r : Vals xs us) : ∀ n : Nat, Vals (List.replicate n xs).flatten (List.replicate n us).flatten
  | 0 => .nil
  | n + 1 => by rw [List.replicate_succ, List.replicate_succ, List.flatten_cons, List.flatten_cons]; exact r.append (vals_rep r n)
theorem repl_rep {K : Frag} {H : Hp} {ds : List D} {xs : List V} (r : RepL K H ds xs) : ∀ n : Nat, RepL K H (List.replicate n ds).flatten (List.replicate n xs).flatten
  | 0 => .nil
  | n + 1 => by rw [List.replicate_succ, List.replicate_succ, List.flatten_cons, List.flatten_cons]; exact r.append (repl_rep r n)
theorem od_rep : OpR X (binaryOp .Mult) (rD X.K oRep) := fun pins s σ H x y v u Q I rx ry ⟨F, d1, d2, d, q1, q2, q3, q4, q5⟩ => by
  unfold oRep at q4
  split at q4
  · rename_i ds n
    split at q4
    · rename_i hc
      cases q4
      simp only [Bool.and_eq_true, decide_eq_true_eq] at hc
      obtain ⟨⟨c1, c2⟩, c3⟩ := hc
      obtain ⟨p, xs, rfl, z1, z2⟩ := rep_tup.mp q2
      cases rep_int.mp q3
      cases rx
      obtain ⟨t, rfl⟩ := ry
      obtain ⟨its, r1, p1, hz⟩ := I.tuple (same_seqT q1 z1)
      have lx := r1.length
      have ld := z2.length
      refine mul_tup p1 c1 c2 (by rw [← lx, ← ld]; exact c3) (fun hq => ?_) fun hq => ?_
      · have e : (List.replicate n.toNat ds).flatten = ds := by
          rcases hq with z | z
          · have : ds = [] := List.length_eq_zero_iff.mp (by rw [ld, lx, z]; rfl)
            subst this
            simp
          · subst z; simp [List.replicate]
        rw [e] at q5
        exact ⟨.ref p, H, I, rfl, q5 _ F H (.refl q1) q2⟩
      · have hn : H s.heap.objs.size = none := I.hok.fresh (Nat.le_refl _)
        have rr := vals_rep r1 n.toNat
        have el : (List.replicate n.toNat xs).flatten.length = ds.length * n.toNat := by
          rw [List.length_flatten, List.map_replicate, List.sum_replicate_nat, Nat.mul_comm, ld]
        refine ⟨.ref s.heap.objs.size, _, I.laid (t' := s.toks) (o := .tup (List.replicate n.toNat xs).flatten) (fun b ob q => Heap.get?_push_of_some _ q) (Nat.le_refl _) ⟨by rw [el]; exact lim_size c3, _, rr, IsTup.new _ _⟩, rfl, ?_⟩
        have gn := Grow.new (o := .tup (List.replicate n.toNat xs).flatten) q1 hn
        exact q5 _ _ _ gn (rep_tup.mpr ⟨_, _, rfl, SqT.of upd_same, (repl_rep z2 n.toNat).mono gn.ff⟩)
    · cases q4
  · cases q4
def oTimes : D → D → Option D := fun x y => (oMul x y).or (oRep x y)
theorem od_times : OpR X (binaryOp .Mult) (rD X.K oTimes) := opR_or od_mul od_rep
end
end DL
set_option maxRecDepth 100000
set_option maxHeartbeats 4000000
namespace DL
open PySem PySem.Spec PyProof.Rows L2
variable [Lam]
section
variable {prog : Program} {w : World} {A : Around} {E : Value → Shared → Prop} {s : Shared}
theorem SI.ty {b : Bool} {h : Heap} {it l : Addr} {k : Nat} (x : SI b h it l k) : it < h.objs.size := let ⟨_, ho, _⟩ := x; Heap.lt_size ho
theorem enumN_item {b : Bool} {e it l : Addr} {i : Nat} {xs : Array Value} {x old : Value} {Q : Value → Shared → Prop} (he : IsEnum s.heap e it i old) (hi : SI b s.heap it l i) (ho : SO b s.heap l xs) (hx : xs[i]? = some x) (hne : e ≠ it)
    (hQ : ∀ h', IsEnumOut h' e it ((i : Int) + 1) x s.heap.objs.size → SI b h' it l (i + 1) → h'.get? s.heap.objs.size = some { cls := .type "tuple", data := .seq #[.int i s.toks, x] } → h'.objs.size = s.heap.objs.size + 1 →
      (∀ c o, c ≠ e → c ≠ it → s.heap.get? c = some o → h'.get? c = some o) → Q (.ref s.heap.objs.size) { s with heap := h', toks := s.toks + 1 }) :
    wpAny (model prog w) A (Builtin.«enumerate.__next__» ⟨[.ref e], []⟩) (fun fin s' => ∃ v, fin = .done (.ret v) ∧ Q v s') E s := by
  obtain ⟨hp, gg, dd, tk, os⟩ := s
  show wpAny _ _ (field (.ref e) 2 >>= _) _ _ _
  refine wpAny_bind (wpAny_field he rfl (x := .ref it) rfl (wpAny_bind (nx_some hi ho hx fun g1 n1 v1 => ?_)))
  have u1 : Heap.SameBut it hp g1 := v1
  have e1 : IsEnum g1 e it i old := (u1.2 e hne).trans he
  show wpAny _ _ (field (.ref e) 3 >>= _) _ _ ⟨g1, gg, dd, tk, os⟩
  refine wpAny_bind (wpAny_field e1 rfl (x := rawInt i) rfl ?_)
  show wpAny _ _ (field (.ref e) 4 >>= _) _ _ ⟨g1, gg, dd, tk, os⟩
  refine wpAny_bind (wpAny_field e1 rfl (x := .none) rfl ?_)
  show wpAny _ _ (mkInt i >>= _) _ _ ⟨g1, gg, dd, tk, os⟩
  refine wpAny_bind (wpAny_mkInt ?_)
  show wpAny _ _ (setField (.ref e) 3 (rawInt ((i : Int) + 1)) >>= _) _ _ ⟨g1, gg, dd, tk + 1, os⟩
  refine wpAny_bind (wpAny_setField_rec e1 (by simp) fun g2 y2 v2 => ?_)
  have u2 : Heap.SameBut e g1 g2 := v2
  have e2 : IsEnum g2 e it ((i : Int) + 1) old := y2
  show wpAny _ _ (setField (.ref e) 4 .none >>= _) _ _ ⟨g2, gg, dd, tk + 1, os⟩
  refine wpAny_bind (wpAny_setField_rec e2 (by simp) fun g3 y3 v3 => ?_)
  have u3 : Heap.SameBut e g2 g3 := v3
  have e3 : IsEnum g3 e it ((i : Int) + 1) old := y3
  show wpAny _ _ (newTuple [.int i tk, x] >>= _) _ _ ⟨g3, gg, dd, tk + 1, os⟩
  refine wpAny_bind (wpAny_newTuple ?_)
  have e4 : IsEnum (g3.push { cls := .type "tuple", data := .seq #[.int i tk, x] }) e it ((i : Int) + 1) old := Heap.get?_push_of_some _ e3
  have z3 : g3.objs.size = hp.objs.size := by rw [u3.1, u2.1, u1.1]
  have ltE : e < hp.objs.size := Heap.lt_size he
  have n3 : SI b g3 it l (i + 1) := (n1.ext u2.extBut hne.symm).ext u3.extBut hne.symm
  have k3 : ∀ c o, c ≠ e → c ≠ it → hp.get? c = some o → g3.get? c = some o := fun c o h1 h2 q => u3.extBut _ _ h1 (u2.extBut _ _ h1 (u1.extBut _ _ h2 q))
  clear v1 v2 v3 y2 y3 e1 e2 u1 u2 u3 n1
  have t4 : (g3.push { cls := .type "tuple", data := .seq #[.int i tk, x] }).get? hp.objs.size = some { cls := .type "tuple", data := .seq #[.int i tk, x] } := by rw [← z3]; exact Heap.get?_push_size _ rfl
  have z4 : (g3.push { cls := .type "tuple", data := .seq #[.int i tk, x] }).objs.size = hp.objs.size + 1 := by rw [Heap.size_push, z3]
  have n4 : SI b (g3.push { cls := .type "tuple", data := .seq #[.int i tk, x] }) it l (i + 1) := let ⟨o, q, r⟩ := n3; ⟨o, Heap.get?_push_of_some _ q, r⟩
  have k4 : ∀ c o, c ≠ e → c ≠ it → hp.get? c = some o → (g3.push { cls := .type "tuple", data := .seq #[.int i tk, x] }).get? c = some o := fun c o h1 h2 q => Heap.get?_push_of_some _ (k3 c o h1 h2 q)
  rw [z3]
  generalize g3.push { cls := .type "tuple", data := .seq #[.int i tk, x] } = g4 at e4 t4 z4 n4 k4 ⊢
  show wpAny _ _ (Builtin.SmallTypes.ownedTupleIsFree (.ref e) >>= _) _ _ ⟨g4, gg, dd, tk + 1, os⟩
  refine wpAny_bind ?_
  unfold Builtin.SmallTypes.ownedTupleIsFree
  refine wpAny_bind (wpAny_field e4 rfl (x := .none) rfl (wpAny_pure ?_))
  simp only [if_true]
  refine wpAny_bind (wpAny_rule (wpAny_bind (wpAny_field e4 rfl (x := old) rfl (wpAny_bind (wpAny_setField_rec e4 (by simp) fun g5 y5 v5 => ?_)))))
  have u5 : Heap.SameBut e g4 g5 := v5
  have e5 : IsEnum g5 e it ((i : Int) + 1) x := y5
  show wpAny _ _ (Builtin.SmallTypes.ownedTupleHandOut (.ref e) (.ref hp.objs.size) >>= _) _ _ ⟨g5, gg, dd, tk + 1, os⟩
  refine wpAny_bind ?_
  unfold Builtin.SmallTypes.ownedTupleHandOut
  refine wpAny_bind (wpAny_setField_rec e5 (by simp) fun g6 y6 v6 => ?_)
  have u6 : Heap.SameBut e g5 g6 := v6
  have e6 : IsEnumOut g6 e it ((i : Int) + 1) x hp.objs.size := y6
  refine wpAny_setField_rec e6 (by simp) fun g7 y7 v7 => ?_
  have u7 : Heap.SameBut e g6 g7 := v7
  have e7 : IsEnumOut g7 e it ((i : Int) + 1) x hp.objs.size := y7
  have up : ∀ {c o}, c ≠ e → g4.get? c = some o → g7.get? c = some o := fun {c o} h q => u7.extBut _ _ h (u6.extBut _ _ h (u5.extBut _ _ h q))
  refine wpAny_bind (wpAny_letGo (wpAny_pure ⟨_, rfl, hQ g7 e7 ?_ (up (Nat.ne_of_gt ltE) t4) ?_ fun c o h1 h2 q => up h1 (k4 c o h1 h2 q)⟩))
  · obtain ⟨o, q, r⟩ := n4
    exact ⟨o, up hne.symm q, r⟩
  · rw [u7.1, u6.1, u5.1, z4]
theorem pyNext_enumN {b : Bool} {e it l : Addr} {i : Nat} {xs : Array Value} {x old : Value} {Q : Option Value → Shared → Prop} (he : IsEnum s.heap e it i old) (hi : SI b s.heap it l i) (ho : SO b s.heap l xs) (hx : xs[i]? = some x) (hne : e ≠ it)
    (hQ : ∀ h', IsEnumOut h' e it ((i : Int) + 1) x s.heap.objs.size → SI b h' it l (i + 1) → h'.get? s.heap.objs.size = some { cls := .type "tuple", data := .seq #[.int i s.toks, x] } → h'.objs.size = s.heap.objs.size + 1 →
      (∀ c o, c ≠ e → c ≠ it → s.heap.get? c = some o → h'.get? c = some o) → Q (some (.ref s.heap.objs.size)) { s with heap := h', toks := s.toks + 1 }) : wpAny (model prog w) A (pyNext (.ref e)) Q E s := by
  have ty : s.TypeIs (.ref e) "enumerate" := ⟨_, he, rfl⟩
  unfold pyNext
  exact wpAny_bind (wpAny_attempt (wpAny_callSpecial?_slot (name := Str.ofString "__next__") ty F.slot_enumerate_next (wpAny_call_entry F.slot_enumerate_next ty F.entry_enumerate_next
    (enumN_item he hi ho hx hne fun h' c1 c2 c3 c4 c5 => wpAny_pure (hQ h' c1 c2 c3 c4 c5)) (F.args_enumerate_next_1 _))))
theorem pyNext_enumNEnd {b : Bool} {e it l : Addr} {i : Nat} {xs : Array Value} {old : Value} {Q : Option Value → Shared → Prop} (hh : A.handled = none) (he : IsEnum s.heap e it i old) (hi : SI b s.heap it l i) (ho : SO b s.heap l xs) (hx : xs[i]? = none)
    (hQ : ∀ h', Heap.ExtBut it s.heap h' → Q none { s with heap := h' }) : wpAny (model prog w) A (pyNext (.ref e)) Q E s := by
  have ty : s.TypeIs (.ref e) "enumerate" := ⟨_, he, rfl⟩
  unfold pyNext
  refine wpAny_bind (wpAny_attempt (wpAny_callSpecial?_slot (name := Str.ofString "__next__") ty F.slot_enumerate_next (wpAny_call_entry F.slot_enumerate_next ty F.entry_enumerate_next ?_ (F.args_enumerate_next_1 _))))
  show wpAny _ _ (field (.ref e) 2 >>= _) _ _ _
  refine wpAny_bind (wpAny_field he rfl (x := .ref it) rfl (wpAny_bind (nx_none hh hi ho hx fun h' y k1 ⟨o, y1, y2⟩ => ?_)))
  exact wpAny_bind (wpAny_isInstance (T := "StopIteration") (b := true) ⟨o, y1, y2⟩ isSubtype_stop (wpAny_pure (hQ _ k1)))
end
theorem meets_enumN (b : Bool) (l : Addr) (xs : Array Value) :
    Meets (Builtin.«enumerate.__new__» ⟨[.type "enumerate", .ref l], []⟩) (fun _ R s => SO b s.heap l xs ∧ R (.ok (.ret (.ref (zh1 b s.heap l).objs.size))) { s with heap := (zh1 b s.heap l).push { cls := .type "enumerate", data := .fields #[.none, .bool false, .ref s.heap.objs.size, rawInt 0, .none, .none] } }) :=
  .of_wp fun prog w A R s h => by
    obtain ⟨hp, gg, dd, tk, os⟩ := s
    obtain ⟨ha, h⟩ := h
    have hsub := sub_enumerate
    have f1 : SO b (Shared.heap ⟨hp, gg, dd, tk, os⟩) l xs := ha
    wp_walk using pyIter_sq f1
    refine wpAny_stack_any fun st => wpAny_pure ?_
    split
    · rename_i c _ _ _ _ _
      cases (c == Value.type "enumerate") <;> (wp_walk using pyIter_sq f1; exact ⟨_, rfl, h⟩)
    · wp_walk using pyIter_sq f1
      exact ⟨_, rfl, h⟩
end DL
set_option maxRecDepth 100000
set_option maxHeartbeats 4000000
namespace DL
open PySem PySem.Spec PyProof.Rows L2
variable [Lam]
def Itn (K : Frag) (b : Bool) (a : Addr) : It :=
  ⟨fun i H => ∃ xs x, Sq b K H a xs ∧ xs[i]? = some x,
   fun i H v H' => ∃ p x, H p = none ∧ (∀ xs, Sq b K H a xs → xs[i]? = some x) ∧ v = .ref p ∧ H' = upd H p (.tup [.int i, x]),
   fun i H => ∃ xs, Sq b K H a xs ∧ xs.length ≤ i⟩
theorem turn_enum {P : Program} {w : World} {K : Frag} {elts : List Expr} {x1} {tp : Pos} {b : Bool} {a e it : Addr} (hne : e ≠ it) :
    Turn P w K (.Tuple elts x1 tp) (Itn K b a) [e, it] e (fun i h => (∃ old, IsEnum h e it (i : Int) old) ∧ SI b h it a i) where
  mem := by simp
  obj := fun i h ⟨⟨old, c1⟩, ⟨o4, c4, _, d4⟩⟩ c hc => by
    simp only [List.mem_cons, List.not_mem_nil, or_false] at hc
    rcases hc with rfl | rfl
    · exact ⟨_, c1, fun v z => by cases z⟩
    · exact ⟨_, c4, fun v z => by rw [d4] at z; cases z⟩
  keep := fun i h h' ⟨⟨old, c1⟩, c4⟩ k => ⟨⟨old, k _ (by simp) _ c1⟩, c4.keep fun o e => k _ (by simp) o e⟩
  item := by
    intro X hP hw hK hc i pins s σ H E I hf st hg
    subst hP hw hK
    obtain ⟨xs, x, q1, hx⟩ := hg
    obtain ⟨its, v1, o1⟩ := sq_so I q1
    obtain ⟨u1, hu1, ru1⟩ := v1.get hx
    obtain ⟨⟨old, c1⟩, c4⟩ := st
    refine pyNext_enumN c1 c4 o1 (x := u1) (by simpa using hu1) hne fun g n1 n2 n3 n4 n5 => ?_
    refine ⟨_, rfl, wpAny_letOwnedTupleGo_enum n1 fun g2 m1 sb => ?_⟩
    have hsz : e < s.heap.objs.size := Heap.lt_size c1
    have hiz : it < s.heap.objs.size := c4.ty
    have kp : ∀ c o, c ∉ [e, it] → s.heap.get? c = some o → g2.get? c = some o := fun c o hc q => by
      simp only [List.mem_cons, List.not_mem_nil, or_false, not_or] at hc
      exact sb.extBut _ _ hc.1 (n5 c o hc.1 hc.2 q)
    have I1 : Inv X pins σ H { s with heap := g2, toks := s.toks + 1 } := turnedL (t' := s.toks + 1) I hf kp
    have fp : FpOk X pins H s.heap.objs.size := I.fpOk (Nat.le_refl _) I.fresh
    have hT : g2.get? s.heap.objs.size = some { cls := .type "tuple", data := .seq #[.int i s.toks, u1] } := sb.extBut _ _ (Nat.ne_of_gt hsz) n3
    have I2 : Inv X pins σ (upd H s.heap.objs.size (.tup [.int i, x])) { s with heap := g2, toks := s.toks + 1 } :=
      adopt I1 fp ⟨by show 2 ≤ sizeLine; decide, [.int i s.toks, u1], .cons ⟨_, rfl⟩ (.cons ru1 .nil), ⟨_, hT, rfl, _, rfl⟩⟩
    refine ⟨.ref s.heap.objs.size, _, I2, rfl, ⟨_, x, I.fresh, fun ws h => ?_, rfl, rfl⟩, ⟨⟨u1, ?_⟩, n2.ext sb.extBut hne.symm⟩, fun c hc => ?_⟩
    · rw [sq_inj I h q1]; exact hx
    · exact m1
    · have hb0 := (hf c hc).1
      have : c ≠ s.heap.objs.size := by
        simp only [List.mem_cons, List.not_mem_nil, or_false] at hc
        rcases hc with rfl | rfl
        · exact Nat.ne_of_lt hsz
        · exact Nat.ne_of_lt hiz
      rw [upd_ne this]; exact hb0
  done := by
    intro X hP hw hK hc i pins s σ H E I hf st hg
    subst hP hw hK
    obtain ⟨xs, q1, hend⟩ := hg
    obtain ⟨its, v1, o1⟩ := sq_so I q1
    obtain ⟨⟨old, c1⟩, c4⟩ := st
    refine pyNext_enumNEnd (I.ok.hd hc) c1 c4 o1 ?_ fun g n5 => ⟨rfl, turnedL (t' := s.toks) I hf fun c o hc q => ?_⟩
    · have l1 := v1.length
      simp; lia
    · simp only [List.mem_cons, List.not_mem_nil, or_false, not_or] at hc
      exact n5 c o hc.2 q
  self := fun A i s Q E st h => let ⟨⟨_, c1⟩, _⟩ := st; wpAny_pyIter_enum c1 h
def enumD (ds : List D) : List D := zipD (rangeD 0 ds.length) ds
theorem enumD_get {ds : List D} {i : Nat} {d : D} (h : (enumD ds)[i]? = some d) : ∃ x, ds[i]? = some x ∧ d = .tup [.int i, x] := by
  unfold enumD zipD rangeD at h
  rw [List.getElem?_zipWith, List.getElem?_map] at h
  cases z2 : ds[i]? with
  | none => rw [z2] at h; simp at h
  | some x =>
    have hi : i < ds.length := (List.getElem?_eq_some_iff.mp z2).1
    rw [z2, List.getElem?_range hi] at h
    cases h
    exact ⟨x, rfl, by simp⟩
theorem enumD_len (ds : List D) : (enumD ds).length = ds.length := by
  unfold enumD zipD rangeD
  simp
theorem itd_enum {K : Frag} {F : Hp} {b : Bool} {a : Addr} {xs : List V} {ds : List D} (h1 : Sq b K F a xs) (r1 : RepL K F ds xs) : ItD K F (enumD ds) (Itn K b a) where
  go := fun i F' H s1 s2 hi => by
    rw [enumD_len] at hi
    exact ⟨xs, xs[i]'(by rw [← r1.length]; exact hi), sq_same (s1.trans s2) h1, by simp⟩
  yld := fun i d F' H x H' s1 s2 hi ⟨p, x1, hp, q1, e1, e2⟩ => by
    subst e1 e2
    obtain ⟨d1, z1, rfl⟩ := enumD_get hi
    obtain ⟨v1, k1, k2⟩ := r1.get z1
    have w1 := q1 xs (sq_same (s1.trans s2) h1)
    rw [k1] at w1; cases w1
    have gn : Grow F' H (upd F' p (.tup [.int i, x1])) (upd H p (.tup [.int i, x1])) := Grow.new s2 hp
    exact ⟨_, gn, rep_tup.mpr ⟨p, _, rfl, SqT.of upd_same, .cons (rep_int.mpr rfl) (.cons ((k2.mono s1).mono gn.ff) .nil)⟩⟩
  stop := fun i F' H s1 s2 hi => by
    rw [enumD_len] at hi
    exact ⟨xs, sq_same (s1.trans s2) h1, by rw [← r1.length]; exact hi⟩
section
variable {X : Cx} {pos : Pos} {elts : List Expr} {x1 : Nat} {tp : Pos}
theorem boot_enum' : bootBuiltins "enumerate" = some (.type "enumerate") := by decide +kernel
theorem pi_enum {a : Expr} {ta : TA} {p : Pos} (hg : Gl X "enumerate") (hm : X.mg "enumerate" = none) (ha : PA X [a] ta) (hs : starEach [a] X.env = [(false, eval a X.env)] := by first | exact star_ns rfl | rfl) :
    PI X (.Tuple elts x1 tp) (.Call (.Name "enumerate" p) [a] [] pos) (fun σ H R => ta σ H fun vs H1 => ∃ b a xs, vs = [.ref a] ∧ Sq b X.K H1 a xs ∧ R (Itn X.K b a) H1) := by
  intro pins s σ H R I h
  refine Call_ (ld_blt I hg hm boot_enum' (PyProof.Rows.callWith_type1 (thn (ha pos pins s σ H _ I h) fun us s1 ⟨vs, H1, I1, r1, q1⟩ => ?_) (by rw [hs]; rfl) (by rfl)))
  obtain ⟨b1, a1, xs, rfl, k1, q⟩ := q1
  obtain ⟨u1, rfl, e1⟩ := vals1 r1
  cases e1
  obtain ⟨its1, v1, o1⟩ := sq_so I1 k1
  refine callType_new F.called_enumerate (by decide) (F.typeCall_enumerate_1 _) (F.newCall_enumerate_1 _) (fun obj => F.args_object_init_2 obj _) F.entry_enumerate_new (meets_enumN b1 a1 its1.toArray) ⟨o1, ?_⟩
  have z1 : (zh1 b1 s1.heap a1).objs.size = s1.heap.objs.size + 1 := Heap.size_push ..
  generalize eh : (zh1 b1 s1.heap a1).push { cls := .type "enumerate", data := .fields #[.none, .bool false, .ref s1.heap.objs.size, rawInt 0, .none, .none] } = h2
  have g2 : IsEnum h2 (zh1 b1 s1.heap a1).objs.size s1.heap.objs.size 0 .none := by rw [← eh]; exact Heap.get?_push_size _ rfl
  have g1 : h2.get? s1.heap.objs.size = some { cls := .type (itN b1), data := .fields #[.ref a1, .int 0 0] } := by rw [← eh]; exact Heap.get?_push_of_some _ (Heap.get?_push_size _ rfl)
  have kp : ∀ c o, s1.heap.get? c = some o → h2.get? c = some o := fun c o e => by rw [← eh]; exact Heap.get?_push_of_some _ (Heap.get?_push_of_some _ e)
  have I2 : Inv X pins σ H1 { s1 with heap := h2 } := I1.kept (t' := s1.toks) kp
  refine ⟨⟨_, g2, rfl⟩, wpAny_pyIter_enum g2 ?_⟩
  refine ⟨_, _, _, _, H1, rfl, I2, turn_enum (b := b1) (a := a1) (e := (zh1 b1 s1.heap a1).objs.size) (it := s1.heap.objs.size) (Nat.ne_of_gt (by rw [z1]; exact Nat.lt_succ_self _)), ⟨⟨_, g2⟩, ⟨_, g1, rfl, rfl⟩⟩, fun c hc => ?_, q⟩
  have hge : s1.heap.objs.size ≤ c := by
    simp only [List.mem_cons, List.not_mem_nil, or_false] at hc
    rcases hc with rfl | rfl <;> lia
  exact I1.fpOk hge (I1.hok.fresh hge)
def iEnum (f : FE) : FA := fun ρ => (f ρ).bind fun d => (seqD d).map enumD
theorem id_enum {a : Expr} {f : FE} {p : Pos} (hg : Gl X "enumerate") (hm : X.mg "enumerate" = none) (ha : PE X a (tD X.K f)) (hs : starEach [a] X.env = [(false, eval a X.env)] := by first | exact star_ns rfl | rfl) :
    PI X (.Tuple elts x1 tp) (.Call (.Name "enumerate" p) [a] [] pos) (tDI X.K (iEnum f)) := pi_imp (pi_enum hg hm (ad_cons (hs := by rw [hs]; rfl) ha ad_nil) hs) fun σ H R ⟨F0, H0, F, ρ, ds, r, hf, q⟩ => by
  obtain ⟨d, h1, h2⟩ := Option.bind_eq_some_iff.mp hf
  obtain ⟨es, h3, h4⟩ := Option.map_eq_some_iff.mp h2
  subst h4
  refine ⟨F0, H0, F, ρ, [d], r, by simp only [aCons, aNil, h1, Option.bind_some, Option.map_some], fun vs F' H' g' r' => ?_⟩
  obtain ⟨v1, t, rfl, e1, e2⟩ := r'.cons_inv
  cases e2.nil_inv
  obtain ⟨b1, a1, us, rfl, s1, l1⟩ := seqD_sq h3 e1
  exact ⟨b1, a1, us, rfl, sq_same g'.fh s1, q _ F' H' g' (itd_enum s1 l1)⟩
end
end DL
set_option maxRecDepth 100000
set_option maxHeartbeats 4000000
namespace DL
open PySem PySem.Spec PyProof.Rows L2
variable [Lam]
section
variable {X : Cx} {st : Stmt}
abbrev oBand := oI (fun _ _ => true) fun i j => Builtin.bitAnd i j
abbrev oBor := oI (fun _ _ => true) fun i j => Builtin.bitOr i j
theorem od_band : OpR X (binaryOp .BitAnd) (rD X.K oBand) := opI0_D op_and
theorem od_bor : OpR X (binaryOp .BitOr) (rD X.K oBor) := opI0_D op_or
theorem vals_ints : ∀ {us : List Value} {ns : List Int}, IntsAre us ns → Vals (ns.map V.int) us
  | _, _, .nil => .nil
  | _, _, .cons n t h => .cons ⟨t, rfl⟩ (vals_ints h)
theorem boot_sorted : bootBuiltins "sorted" = some (.builtin "sorted") := by decide +kernel
end
end DL
set_option maxRecDepth 100000
namespace DL
open PySem PyProof.Rows L2
def rkD : D → Nat
  | .int _ => 0
  | .tup _ => 1
  | _ => 2
mutual
def cmpT : D → D → Ordering
  | .int i, .int j => if i < j then .lt else if j < i then .gt else .eq
  | .tup ds, .tup es => cmpTL ds es
  | d, e => if rkD d < rkD e then .lt else if rkD e < rkD d then .gt else .eq
def cmpTL : List D → List D → Ordering
  | [], [] => .eq
  | [], _ :: _ => .lt
  | _ :: _, [] => .gt
  | d :: ds, e :: es => match cmpT d e with
    | .eq => cmpTL ds es
    | o => o
end
def ltT (d e : D) : Bool := (cmpT d e).isLT
def ltTL (ds es : List D) : Bool := (cmpTL ds es).isLT
mutual
/-- ints, and tuples of such -/
def kD : D → Bool
  | .int _ => true
  | .tup ds => kDL ds
  | _ => false
def kDL : List D → Bool
  | [] => true
  | d :: ds => kD d && kDL ds
end
mutual
/-- where Python compares these two, it meets only ints with ints, tuples with tuples -/
def shD : D → D → Bool
  | .int _, .int _ => true
  | .tup ds, .tup es => shL ds es
  | _, _ => false
def shL : List D → List D → Bool
  | d :: ds, e :: es => shD d e && shL ds es
  | _, _ => true
end
def insT (k : D × D) : List (D × D) → List (D × D)
  | [] => [k]
  | y :: r => if ltT y.1 k.1 = true then y :: insT k r else k :: y :: r
def sortT : List (D × D) → List (D × D)
  | [] => []
  | x :: r => insT x (sortT r)
theorem swap3 {a b : Nat} : (if a < b then Ordering.lt else if b < a then .gt else .eq).swap = if b < a then .lt else if a < b then .gt else .eq := by
  by_cases h : a < b
  · rw [if_pos h, if_neg (by lia), if_pos h]; rfl
  · by_cases k : b < a
    · rw [if_neg h, if_pos k, if_pos k]; rfl
    · rw [if_neg h, if_neg k, if_neg k, if_neg h]; rfl
theorem swap4 {a b : Int} : (if a < b then Ordering.lt else if b < a then .gt else .eq).swap = if b < a then .lt else if a < b then .gt else .eq := by
  by_cases h : a < b
  · rw [if_pos h, if_neg (by lia), if_pos h]; rfl
  · by_cases k : b < a
    · rw [if_neg h, if_pos k, if_pos k]; rfl
    · rw [if_neg h, if_neg k, if_neg k, if_neg h]; rfl
theorem cmp_swap_all : ∀ n, (∀ d e : D, sizeOf d < n → cmpT e d = (cmpT d e).swap) ∧ (∀ ds es : List D, sizeOf ds < n → cmpTL es ds = (cmpTL ds es).swap) := by
  intro n
  induction n with
  | zero => exact ⟨fun d e h => absurd h (Nat.not_lt_zero _), fun d e h => absurd h (Nat.not_lt_zero _)⟩
  | succ n ih =>
    refine ⟨fun d e hn => ?_, fun ds es hn => ?_⟩
    · cases d <;> cases e <;> simp only [cmpT] <;> first
        | exact swap3.symm
        | exact swap4.symm
        | exact ih.2 _ _ (by simp at hn; lia)
    · cases ds with
      | nil => cases es <;> simp only [cmpTL] <;> rfl
      | cons d ds =>
        cases es with
        | nil => simp only [cmpTL]; rfl
        | cons e es =>
          simp only [cmpTL]
          rw [ih.1 d e (by simp at hn; lia), ih.2 ds es (by simp at hn; lia)]
          cases cmpT d e <;> rfl
theorem cmp_swap (d e : D) : cmpT e d = (cmpT d e).swap := (cmp_swap_all (sizeOf d + 1)).1 d e (Nat.lt_succ_self _)
theorem ltTL_cons (d e : D) (ds es : List D) : ltTL (d :: ds) (e :: es) = (ltT d e || (!ltT e d && ltTL ds es)) := by
  unfold ltTL ltT
  rw [cmp_swap d e, cmpTL]
  cases cmpT d e <;> rfl
theorem ltTL_nil (ds : List D) : ltTL ds [] = false := by cases ds <;> simp only [ltTL, cmpTL] <;> rfl
theorem ltTL_nil' (e : D) (es : List D) : ltTL [] (e :: es) = true := by simp only [ltTL, cmpTL]; rfl
theorem lt3 {a b : Nat} : (if a < b then Ordering.lt else if b < a then .gt else .eq).isLT = decide (a < b) := by
  by_cases h : a < b
  · simp [h]
  · by_cases k : b < a <;> simp [h, k]
theorem lt4 {a b : Int} : (if a < b then Ordering.lt else if b < a then .gt else .eq).isLT = decide (a < b) := by
  by_cases h : a < b
  · simp [h]
  · by_cases k : b < a <;> simp [h, k]
theorem ltT_tup (ds es : List D) : ltT (.tup ds) (.tup es) = ltTL ds es := by unfold ltT; simp only [cmpT]; rfl
theorem ltT_int (i j : Int) : ltT (.int i) (.int j) = decide (i < j) := by unfold ltT; simp only [cmpT]; exact lt4
theorem lt_asy {d e : D} (h : ltT d e = true) : ltT e d = false := by
  unfold ltT at h ⊢
  rw [cmp_swap d e]
  cases q : cmpT d e <;> rw [q] at h <;> first | rfl | (cases h; done)
theorem lt_gen (d e : D) : (∃ i j, d = .int i ∧ e = .int j) ∨ (∃ ds es, d = .tup ds ∧ e = .tup es) ∨ ltT d e = decide (rkD d < rkD e) := by
  cases d <;> cases e <;> first
    | (left; exact ⟨_, _, rfl, rfl⟩)
    | (right; left; exact ⟨_, _, rfl, rfl⟩)
    | (right; right; simp only [ltT, cmpT]; exact lt3)
theorem lt_tra_all : ∀ n, (∀ d e f : D, sizeOf d + sizeOf e + sizeOf f < n → ltT e d = false → ltT f e = false → ltT f d = false) ∧ (∀ ds es fs : List D, sizeOf ds + sizeOf es + sizeOf fs < n → ltTL es ds = false → ltTL fs es = false → ltTL fs ds = false) := by
  intro n
  induction n with
  | zero => exact ⟨fun d e f h => absurd h (Nat.not_lt_zero _), fun d e f h => absurd h (Nat.not_lt_zero _)⟩
  | succ n ih =>
    refine ⟨fun d e f hn h k => ?_, fun ds es fs hn h k => ?_⟩
    · rcases lt_gen e d with ⟨i, j, rfl, rfl⟩ | ⟨es, ds, rfl, rfl⟩ | g1
      · rcases lt_gen f (.int i) with ⟨i', j', rfl, z⟩ | ⟨es, ds, rfl, z⟩ | g2
        · cases z
          simp only [ltT_int, decide_eq_false_iff_not] at h k ⊢; lia
        · cases z
        · rcases lt_gen f (.int j) with ⟨i', j', rfl, z⟩ | ⟨es, ds, rfl, z⟩ | g3
          · rw [ltT_int, decide_eq_false_iff_not] at k
            simp only [ltT_int, decide_eq_false_iff_not] at h ⊢; lia
          · cases z
          · rw [g3]; simp [rkD]
      · rcases lt_gen f (.tup es) with ⟨i', j', rfl, z⟩ | ⟨fs, es', rfl, z⟩ | g2
        · cases z
        · cases z
          simp only [ltT_tup] at h k ⊢
          exact ih.2 _ _ _ (by simp at hn; lia) h k
        · rcases lt_gen f (.tup ds) with ⟨i', j', rfl, z⟩ | ⟨fs, es', rfl, z⟩ | g3
          · cases z
          · cases z
            simp only [ltT_tup] at h k ⊢
            exact ih.2 _ _ _ (by simp at hn; lia) h k
          · rw [g2] at k; rw [g3]; exact k
      · rcases lt_gen f e with ⟨i, j, rfl, rfl⟩ | ⟨es, ds, rfl, rfl⟩ | g2
        · rcases lt_gen (.int i) d with ⟨i', j', z, rfl⟩ | ⟨fs, es', z, rfl⟩ | g3
          · cases z
            rw [ltT_int, decide_eq_false_iff_not] at h
            simp only [ltT_int, decide_eq_false_iff_not] at k ⊢; lia
          · cases z
          · rw [g1] at h; rw [g3]; exact h
        · rcases lt_gen (.tup es) d with ⟨i', j', z, rfl⟩ | ⟨fs, es', z, rfl⟩ | g3
          · cases z
          · cases z
            simp only [ltT_tup] at h k ⊢
            exact ih.2 _ _ _ (by simp at hn; lia) h k
          · rw [g1] at h; rw [g3]; exact h
        · rcases lt_gen f d with ⟨i, j, rfl, rfl⟩ | ⟨es, ds, rfl, rfl⟩ | g3
          · rw [g1] at h; rw [g2] at k
            cases e <;> simp [rkD] at h k
            rename_i m
            have h' : ltT (.int m) (.int j) = false := by rw [g1]; simp [rkD]
            have k' : ltT (.int i) (.int m) = false := by rw [g2]; simp [rkD]
            simp only [ltT_int, decide_eq_false_iff_not] at h' k' ⊢; lia
          · rw [g1] at h; rw [g2] at k
            cases e <;> simp [rkD] at h k
            rename_i ms
            have h' : ltT (.tup ms) (.tup ds) = false := by rw [g1]; simp [rkD]
            have k' : ltT (.tup es) (.tup ms) = false := by rw [g2]; simp [rkD]
            simp only [ltT_tup] at h' k' ⊢
            exact ih.2 _ _ _ (by simp at hn; lia) h' k'
          · rw [g1] at h; rw [g2] at k; rw [g3]
            simp only [decide_eq_false_iff_not] at h k ⊢; lia
    · cases fs with
      | nil =>
        cases es with
        | nil => exact h
        | cons e es => rw [ltTL_nil'] at k; cases k
      | cons f fs =>
        cases ds with
        | nil => rw [ltTL_nil]
        | cons d ds =>
          cases es with
          | nil => rw [ltTL_nil'] at h; cases h
          | cons e es =>
            rw [ltTL_cons] at h k ⊢
            have z1 : sizeOf d + sizeOf e + sizeOf f < n := by simp at hn; lia
            have z2 : sizeOf ds + sizeOf es + sizeOf fs < n := by simp at hn; lia
            have z3 : sizeOf e + sizeOf f + sizeOf d < n := by simp at hn; lia
            have z4 : sizeOf f + sizeOf d + sizeOf e < n := by simp at hn; lia
            simp only [Bool.or_eq_false_iff, Bool.and_eq_false_iff, Bool.not_eq_false'] at h k ⊢
            obtain ⟨h1, h2⟩ := h
            obtain ⟨k1, k2⟩ := k
            refine ⟨ih.1 d e f z1 h1 k1, ?_⟩
            rcases h2 with h2 | h2
            · left
              cases q : ltT d f
              · -- f ≤ d and e ≤ f give e ≤ d
                have := ih.1 e f d z3 k1 q
                rw [this] at h2; cases h2
              · rfl
            · rcases k2 with k2 | k2
              · left
                cases q : ltT d f
                · have := ih.1 f d e z4 q h1
                  rw [this] at k2; cases k2
                · rfl
              · right
                exact ih.2 ds es fs z2 h2 k2
theorem lt_tra {d e f : D} (h : ltT e d = false) (k : ltT f e = false) : ltT f d = false := (lt_tra_all (sizeOf d + sizeOf e + sizeOf f + 1)).1 d e f (Nat.lt_succ_self _) h k
theorem lt_eq_all : ∀ n, (∀ d e : D, sizeOf d < n → kD d = true → kD e = true → ltT d e = false → ltT e d = false → d = e) ∧ (∀ ds es : List D, sizeOf ds < n → kDL ds = true → kDL es = true → ltTL ds es = false → ltTL es ds = false → ds = es) := by
  intro n
  induction n with
  | zero => exact ⟨fun d e h => absurd h (Nat.not_lt_zero _), fun d e h => absurd h (Nat.not_lt_zero _)⟩
  | succ n ih =>
    refine ⟨fun d e hn kd ke h k => ?_, fun ds es hn kd ke h k => ?_⟩
    · cases d <;> simp only [kD] at kd <;> first | (cases kd; done) | skip
      all_goals (cases e <;> simp only [kD] at ke <;> first | (cases ke; done) | skip)
      · simp only [ltT_int, decide_eq_false_iff_not] at h k
        congr 1; lia
      · simp [ltT, cmpT, rkD] at h
      · simp [ltT, cmpT, rkD] at k
      · simp only [ltT_tup] at h k
        rw [ih.2 _ _ (by simp at hn; lia) kd ke h k]
    · cases ds with
      | nil =>
        cases es with
        | nil => rfl
        | cons e es => rw [ltTL_nil'] at h; cases h
      | cons d ds =>
        cases es with
        | nil => rw [ltTL_nil'] at k; cases k
        | cons e es =>
          rw [ltTL_cons] at h k
          simp only [kDL, Bool.and_eq_true] at kd ke
          simp only [Bool.or_eq_false_iff, Bool.and_eq_false_iff, Bool.not_eq_false'] at h k
          have hd : sizeOf d < n := by simp at hn; lia
          have hds : sizeOf ds < n := by simp at hn; lia
          have e1 := ih.1 d e hd kd.1 ke.1 h.1 k.1
          have e2 := ih.2 ds es hds kd.2 ke.2 (h.2.resolve_left (by rw [k.1]; simp)) (k.2.resolve_left (by rw [h.1]; simp))
          rw [e1, e2]
theorem lt_eq {d e : D} (kd : kD d = true) (ke : kD e = true) (h : ltT d e = false) (k : ltT e d = false) : d = e := (lt_eq_all (sizeOf d + 1)).1 d e (Nat.lt_succ_self _) kd ke h k
theorem lt_irr (d : D) : ltT d d = false := by
  cases e : ltT d d
  · rfl
  · have := lt_asy e; rw [e] at this; cases this
theorem insT_perm (x : D × D) : ∀ l, (insT x l).Perm (x :: l)
  | [] => .refl _
  | y :: r => by
    unfold insT
    split
    · exact ((insT_perm x r).cons y).trans (.swap x y r)
    · exact .refl _
theorem sortT_perm : ∀ l, (sortT l).Perm l
  | [] => .refl _
  | x :: r => (insT_perm x _).trans ((sortT_perm r).cons x)
def leT (x y : D × D) : Prop := ltT y.1 x.1 = false
theorem insT_rise (x : D × D) : ∀ {l : List (D × D)}, l.Pairwise leT → (insT x l).Pairwise leT
  | [], _ => .cons (fun _ h => by cases h) .nil
  | y :: r, .cons h1 h2 => by
    unfold insT
    split
    · rename_i hxy
      refine .cons (fun z hz => ?_) (insT_rise x h2)
      rcases List.mem_cons.mp ((insT_perm x r).mem_iff.mp hz) with rfl | hz
      · exact lt_asy hxy
      · exact h1 z hz
    · rename_i hxy
      have hxy' : ltT y.1 x.1 = false := by simpa using hxy
      refine .cons (fun z hz => ?_) (.cons h1 h2)
      rcases List.mem_cons.mp hz with rfl | hz
      · exact hxy'
      · exact lt_tra hxy' (h1 z hz)
theorem sortT_rise : ∀ l, (sortT l).Pairwise leT
  | [] => .nil
  | x :: r => insT_rise x (sortT_rise r)
theorem rise_eqT : ∀ {l m : List (D × D)}, l.Perm m → l.Pairwise leT → m.Pairwise leT → (∀ x ∈ l, ∀ y ∈ l, ltT x.1 y.1 = false → ltT y.1 x.1 = false → x = y) → l = m
  | [], m, p, _, _, _ => (p.nil_eq).symm ▸ rfl
  | x :: l, [], p, _, _, _ => by cases p.length_eq
  | x :: l, y :: m, p, .cons h1 h2, .cons k1 k2, hu => by
    have e : x = y := by
      have hx : x ∈ y :: m := p.mem_iff.mp List.mem_cons_self
      have hy : y ∈ x :: l := p.mem_iff.mpr List.mem_cons_self
      rcases List.mem_cons.mp hx with e | hx
      · exact e
      · rcases List.mem_cons.mp hy with e | hy'
        · exact e.symm
        · exact hu x List.mem_cons_self y hy (k1 x hx) (h1 y hy')
    subst e
    rw [rise_eqT (List.perm_cons _ |>.mp p) h2 k2 (fun a ha b hb => hu a (List.mem_cons_of_mem _ ha) b (List.mem_cons_of_mem _ hb))]
theorem sortT_eq {l m : List (D × D)} (p : m.Perm l) (h : m.Pairwise leT) (hu : ∀ x ∈ l, ∀ y ∈ l, ltT x.1 y.1 = false → ltT y.1 x.1 = false → x = y) : m = sortT l :=
  rise_eqT (p.trans (sortT_perm l).symm) h (sortT_rise l) (fun x hx y hy => hu x (p.mem_iff.mp hx) y (p.mem_iff.mp hy))
end DL
set_option maxRecDepth 100000
set_option maxHeartbeats 4000000
namespace Srt
open PySem PyProof.Rows
structure Cmp (prog : Program) (w : World) (A : Around) (s : Shared) (κ : SortKind) (G : Value → Prop) (lt : Value → Value → Bool) : Prop where
  ask : ∀ x y, G x → G y → ∀ Q : Bool → Shared → Prop, Q (lt x y) s → wpAny (model prog w) A (keyLt' κ x y) Q (fun _ _ => False) s
  asy : ∀ x y, lt x y = true → lt y x = false
  tra : ∀ x y z, lt y x = false → lt z y = false → lt z x = false
abbrev gal' : Bool → Keyed → Array Keyed → Nat → Nat → Nat → StateT SortSt Sem (Option Nat) := sortPriv% PySem.Builtin.gallop
def galB (far : Nat → StateT SortSt Sem (Option Bool)) (n l0 r0 : Nat) : StateT SortSt Sem (Option Nat) := do
  let mut l := l0
  let mut r := r0
  for _ in [0:n] do
    if l ≥ r then break
    let c := l + (r - l) / 2
    let some go ← far c | return none
    if go then l := c + 1 else r := c
  return some r
def galF (far : Nat → StateT SortSt Sem (Option Bool)) (n hi0 : Nat) : StateT SortSt Sem (Option Nat) := do
  let mut u := 0
  let mut v := 1
  let mut l := 0
  let mut r := 0
  let some rg ← far hi0 | return none
  if rg then
    let mo := n - hi0
    for _ in [0:n] do
      if v ≥ mo then break
      let some go ← far (hi0 + v) | return none
      if !go then break
      u := v
      v := 2 * v + 1
    l := hi0 + u + 1
    r := hi0 + min v mo
  else
    let mo := hi0 + 1
    for _ in [0:n] do
      if v ≥ mo then break
      let some go ← far (hi0 - v) | return none
      if go then break
      u := v
      v := 2 * v + 1
    l := hi0 + 1 - min v mo
    r := hi0 - u
  for _ in [0:n] do
    if l ≥ r then break
    let c := l + (r - l) / 2
    let some go ← far c | return none
    if go then l := c + 1 else r := c
  return some r
def farM (lf : Bool) (ke : Keyed) (xs : Array Keyed) (ba i : Nat) : StateT SortSt Sem (Option Bool) := do
  let x ← elem' xs (ba + i)
  if lf then lt' x ke else return (← lt' ke x).map (!·)
theorem gal'_eq (lf : Bool) (ke : Keyed) (xs : Array Keyed) (ba n hi0 : Nat) : gal' lf ke xs ba n hi0 = galF (farM lf ke xs ba) n hi0 := rfl
section
variable {prog : Program} {w : World} {A : Around} {E : Value → Shared → Prop} {s : Shared} {κ : SortKind} {G : Value → Prop} {lt : Value → Value → Bool}
def kz (p : Option Keyed) : Value := match p with | some p => p.1 | none => .none
theorem wpS_far {C : Cmp prog w A s κ G lt} {st : SortSt} {x y : Keyed} {Q : Option Bool → SortSt → Prop} (hk : kindOf st = κ) (gx : G x.1) (gy : G y.1) (h : Q (some (lt x.1 y.1)) st) :
    wpS (model prog w) A E s (lt' x y) Q st := by
  rw [lt'_eq]
  refine wpS_bind (wpS_get ?_)
  rw [hk]
  exact wpS_bind (wpS_lift (wpAny_attempt (wpAny_mono (C.ask _ _ gx gy (fun b s' => s' = s ∧ b = lt x.1 y.1) ⟨rfl, rfl⟩) (fun b s' h' => by
    obtain ⟨rfl, rfl⟩ := h'
    exact ⟨rfl, wpS_pure h⟩) fun _ _ e => e.elim)))
theorem wpS_elem {st : SortSt} {xs : Array Keyed} {i : Nat} {Q : Keyed → SortSt → Prop} (hi : i < xs.size) (h : Q xs[i] st) : wpS (model prog w) A E s (elem' xs i) Q st := by
  rw [elem'_eq, getElem?_pos xs i hi]
  exact wpS_pure h
def far1 (lt : Value → Value → Bool) (lf : Bool) (ke x : Keyed) : Bool := if lf then lt x.1 ke.1 else !lt ke.1 x.1
theorem wpS_galF {st : SortSt} {far : Nat → StateT SortSt Sem (Option Bool)} {n hi0 : Nat} {Q : Option Nat → SortSt → Prop} (f : Nat → Bool) (hh : hi0 < n)
    (hfar : ∀ i, i < n → ∀ R : Option Bool → SortSt → Prop, R (some (f i)) st → wpS (model prog w) A E s (far i) R st)
    (mono' : ∀ i j, i ≤ j → j < n → f j = true → f i = true)
    (h' : ∀ k, k ≤ n → (∀ i, i < k → f i = true) → (∀ i, k ≤ i → i < n → f i = false) → Q (some k) st) :
    wpS (model prog w) A E s (galF far n hi0) Q st := by
  unfold galF
  have bin : ∀ l r, l ≤ r → r ≤ n → (∀ i, i < l → f i = true) → (∀ i, r ≤ i → i < n → f i = false) → wpS (model prog w) A E s (galB far n l r) Q st := by
    intro l r hlr hrn ha hb
    unfold galB
    refine wpS_bind (wpS_mono (wpS_forRange (I := fun x c st' => st' = st ∧ ∃ l r, c = (none, l, r) ∧ l ≤ r ∧ r ≤ n ∧ r - l ≤ n - x ∧ (∀ i, i < l → f i = true) ∧ (∀ i, r ≤ i → i < n → f i = false))
      (Q := fun c st' => st' = st ∧ ∃ r, c = (none, r, r) ∧ r ≤ n ∧ (∀ i, i < r → f i = true) ∧ (∀ i, r ≤ i → i < n → f i = false)) ?_ ?_ ?_) ?_)
    · rintro x c st' _ hx ⟨rfl, l, r, rfl, h1, h2, h3, h4, h5⟩
      dsimp only
      by_cases hge : l ≥ r
      · rw [if_pos hge]
        have : l = r := by omega
        subst this
        exact wpS_pure ⟨rfl, l, rfl, h2, h4, h5⟩
      · rw [if_neg hge]
        refine wpS_bind (hfar _ (by omega) _ ?_)
        cases e : f (l + (r - l) / 2)
        · simp only [Bool.false_eq_true, if_false]
          refine wpS_pure ⟨rfl, _, _, rfl, by omega, by omega, by omega, h4, fun i i1 i2 => ?_⟩
          cases e' : f i
          · rfl
          · rw [mono' _ _ i1 i2 e'] at e; cases e
        · simp only [if_true]
          exact wpS_pure ⟨rfl, _, _, rfl, by omega, by omega, by omega, fun i i1 => mono' _ _ (by omega) (by omega) e, h5⟩
    · rintro c st' ⟨rfl, l, r, rfl, h1, h2, h3, h4, h5⟩
      have : l = r := by omega
      subst this
      exact ⟨rfl, l, rfl, h2, h4, h5⟩
    · exact ⟨rfl, l, r, rfl, hlr, hrn, by omega, ha, hb⟩
    · rintro c st' ⟨rfl, r, rfl, h2, h4, h5⟩
      exact wpS_pure (h' r h2 h4 h5)
  refine wpS_bind (hfar hi0 hh _ ?_)
  dsimp only
  cases e0 : f hi0
  · simp only [Bool.false_eq_true, if_false]
    refine wpS_bind (wpS_mono (wpS_forRange (I := fun x c st' => st' = st ∧ ∃ u v, c = (none, u, v) ∧ u < v ∧ x + 1 ≤ v ∧ u ≤ hi0 ∧ f (hi0 - u) = false)
      (Q := fun c st' => st' = st ∧ ∃ u v, c = (none, u, v) ∧ u < v ∧ u ≤ hi0 ∧ f (hi0 - u) = false ∧ (v ≥ hi0 + 1 ∨ f (hi0 - v) = true)) ?_ ?_ ?_) ?_)
    · rintro x c st' _ hx ⟨rfl, u, v, rfl, h1, h2, h3, h4⟩
      dsimp only
      by_cases hge : v ≥ hi0 + 1
      · rw [if_pos hge]
        exact wpS_pure ⟨rfl, u, v, rfl, h1, h3, h4, .inl hge⟩
      · rw [if_neg hge]
        refine wpS_bind (hfar _ (by omega) _ ?_)
        cases e : f (hi0 - v)
        · simp only [Bool.false_eq_true, if_false]
          exact wpS_pure ⟨rfl, v, 2 * v + 1, rfl, by omega, by omega, by omega, e⟩
        · simp only [if_true]
          exact wpS_pure ⟨rfl, u, v, rfl, h1, h3, h4, .inr e⟩
    · rintro c st' ⟨rfl, u, v, rfl, h1, h2, h3, h4⟩
      exact ⟨rfl, u, v, rfl, h1, h3, h4, .inl (by omega)⟩
    · exact ⟨rfl, 0, 1, rfl, by omega, by omega, by omega, e0⟩
    · rintro c st' ⟨rfl, u, v, rfl, h1, h3, h4, h5⟩
      dsimp only
      refine bin (hi0 + 1 - min v (hi0 + 1)) (hi0 - u) (by omega) (by omega) (fun i hi => ?_) (fun i i1 i2 => ?_)
      · rcases h5 with h5 | h5
        · omega
        · exact mono' _ _ (by omega) (by omega) h5
      · cases e' : f i
        · rfl
        · rw [mono' _ _ i1 i2 e'] at h4; cases h4
  · simp only [if_true]
    refine wpS_bind (wpS_mono (wpS_forRange (I := fun x c st' => st' = st ∧ ∃ u v, c = (none, u, v) ∧ u < v ∧ x + 1 ≤ v ∧ hi0 + u < n ∧ f (hi0 + u) = true)
      (Q := fun c st' => st' = st ∧ ∃ u v, c = (none, u, v) ∧ u < v ∧ hi0 + u < n ∧ f (hi0 + u) = true ∧ (v ≥ n - hi0 ∨ f (hi0 + v) = false)) ?_ ?_ ?_) ?_)
    · rintro x c st' _ hx ⟨rfl, u, v, rfl, h1, h2, h3, h4⟩
      dsimp only
      by_cases hge : v ≥ n - hi0
      · rw [if_pos hge]
        exact wpS_pure ⟨rfl, u, v, rfl, h1, h3, h4, .inl hge⟩
      · rw [if_neg hge]
        refine wpS_bind (hfar _ (by omega) _ ?_)
        cases e : f (hi0 + v)
        · simp only [Bool.not_false, if_true]
          exact wpS_pure ⟨rfl, u, v, rfl, h1, h3, h4, .inr e⟩
        · simp only [Bool.not_true, Bool.false_eq_true, if_false]
          exact wpS_pure ⟨rfl, v, 2 * v + 1, rfl, by omega, by omega, by omega, e⟩
    · rintro c st' ⟨rfl, u, v, rfl, h1, h2, h3, h4⟩
      exact ⟨rfl, u, v, rfl, h1, h3, h4, .inl (by omega)⟩
    · exact ⟨rfl, 0, 1, rfl, by omega, by omega, by omega, e0⟩
    · rintro c st' ⟨rfl, u, v, rfl, h1, h3, h4, h5⟩
      dsimp only
      refine bin (hi0 + u + 1) (hi0 + min v (n - hi0)) (by omega) (by omega) (fun i hi => mono' _ (hi0 + u) (by omega) (by omega) h4) (fun i i1 i2 => ?_)
      rcases h5 with h5 | h5
      · omega
      · cases e' : f i
        · rfl
        · by_cases hv : v ≤ n - hi0
          · rw [mono' _ _ (show hi0 + v ≤ i by omega) i2 e'] at h5; cases h5
          · omega
theorem wpS_gal (C : Cmp prog w A s κ G lt) {st : SortSt} {lf : Bool} {ke : Keyed} {xs : Array Keyed} {ba n hi0 : Nat} {Q : Option Nat → SortSt → Prop} (hk : kindOf st = κ)
    (gk : G ke.1) (gx : ∀ p ∈ xs.toList, G p.1) (hh : hi0 < n) (hn : ba + n ≤ xs.size)
    (mono : ∀ i j, (hij : i ≤ j) → (hj : j < n) → far1 lt lf ke (xs[ba + j]'(by omega)) = true → far1 lt lf ke (xs[ba + i]'(by omega)) = true)
    (h : ∀ k, k ≤ n → (∀ i, (hi : i < k) → (hi' : i < n) → far1 lt lf ke (xs[ba + i]'(by omega)) = true) → (∀ i, k ≤ i → (hi : i < n) → far1 lt lf ke (xs[ba + i]'(by omega)) = false) → Q (some k) st) :
    wpS (model prog w) A E s (gal' lf ke xs ba n hi0) Q st := by
  rw [gal'_eq]
  obtain ⟨f, hf⟩ : ∃ f : Nat → Bool, ∀ i, (hi : i < n) → f i = far1 lt lf ke (xs[ba + i]'(by omega)) := ⟨fun i => if hi : i < n then far1 lt lf ke (xs[ba + i]'(by omega)) else false, fun i hi => by simp [hi]⟩
  refine wpS_galF f hh (fun i hi R hR => ?_) (fun i j hij hj e => ?_) (fun k hk1 a b => ?_)
  · unfold farM
    refine wpS_bind (wpS_elem (by omega) ?_)
    have gi : G (xs[ba + i]'(by omega)).1 := gx _ (by simp)
    rw [hf i hi] at hR
    unfold far1 at hR
    cases lf
    · simp only [Bool.false_eq_true, if_false] at hR ⊢
      exact wpS_bind (wpS_far (C := C) hk gk gi (wpS_pure hR))
    · simp only [if_true] at hR ⊢
      exact wpS_far (C := C) hk gi gk hR
  · rw [hf i (by omega)]; rw [hf j hj] at e
    exact mono i j hij hj e
  · exact h k hk1 (fun i hi hi' => by rw [← hf i hi']; exact a i hi) (fun i hi hi' => by rw [← hf i hi']; exact b i hi hi')
end
end Srt
set_option maxRecDepth 100000
set_option maxHeartbeats 4000000
namespace Srt
open PySem PyProof.Rows
def le (lt : Value → Value → Bool) (p q : Keyed) : Prop := lt q.1 p.1 = false
structure MI (lt : Value → Value → Bool) (la lb o : List Keyed) (ia ib : Nat) : Prop where
  perm : o.Perm (la.take ia ++ lb.take ib)
  ord : o.Pairwise (le lt)
  ua : ∀ p ∈ o, ∀ q ∈ la.drop ia, le lt p q
  ub : ∀ p ∈ o, ∀ q ∈ lb.drop ib, le lt p q
section
variable {lt : Value → Value → Bool} {la lb o : List Keyed} {ia ib : Nat}
theorem MI.swap (h : MI lt la lb o ia ib) : MI lt lb la o ib ia := ⟨h.perm.trans List.perm_append_comm, h.ord, h.ub, h.ua⟩
theorem le_drop (sa : la.Pairwise (le lt)) (h : ia < la.length) : ∀ q ∈ la.drop (ia + 1), le lt la[ia] q := by
  have e := List.drop_eq_getElem_cons h
  have s2 := List.Pairwise.drop (i := ia) sa
  rw [e] at s2
  exact (List.pairwise_cons.mp s2).1
theorem MI.step (m : MI lt la lb o ia ib) (sa : la.Pairwise (le lt)) (h : ia < la.length) (hq : ∀ q ∈ lb.drop ib, le lt la[ia] q) : MI lt la lb (o ++ [la[ia]]) (ia + 1) ib := by
  have e := List.drop_eq_getElem_cons h
  refine ⟨?_, ?_, ?_, ?_⟩
  · rw [List.take_succ_eq_append_getElem h]
    refine (m.perm.append_right _).trans ?_
    rw [List.append_assoc, List.append_assoc]
    exact List.Perm.append_left _ List.perm_append_comm
  · refine List.pairwise_append.mpr ⟨m.ord, List.pairwise_singleton _ _, fun p hp q hq => ?_⟩
    rw [List.mem_singleton.mp hq]
    exact m.ua p hp _ (by rw [e]; exact List.mem_cons_self)
  · intro p hp q hq'
    rcases List.mem_append.mp hp with hp | hp
    · exact m.ua p hp q (by rw [e]; exact List.mem_cons_of_mem _ hq')
    · rw [List.mem_singleton.mp hp]
      exact le_drop sa h q hq'
  · intro p hp q hq'
    rcases List.mem_append.mp hp with hp | hp
    · exact m.ub p hp q hq'
    · rw [List.mem_singleton.mp hp]
      exact hq q hq'
theorem MI.steps (m : MI lt la lb o ia ib) (sa : la.Pairwise (le lt)) : ∀ (k : Nat), ia + k ≤ la.length → (∀ i, (hi : i < k) → (hl : ia + i < la.length) → ∀ q ∈ lb.drop ib, le lt la[ia + i] q) →
    MI lt la lb (o ++ (la.drop ia).take k) (ia + k) ib
  | 0, _, _ => by simpa using m
  | k + 1, hk, hq => by
    have m' := MI.steps m sa k (by lia) (fun i hi hl => hq i (by lia) hl)
    have m2 := m'.step sa (by lia) (hq k (by lia) (by lia))
    have e : (la.drop ia).take (k + 1) = (la.drop ia).take k ++ [la[ia + k]] := by
      rw [List.take_succ_eq_append_getElem (by simp; lia)]
      simp
    rw [e, ← List.append_assoc]
    exact m2
theorem MI.fin (m : MI lt la lb o ia ib) (sa : la.Pairwise (le lt)) (hb : lb.length ≤ ib) : (o ++ la.drop ia).Perm (la ++ lb) ∧ (o ++ la.drop ia).Pairwise (le lt) := by
  refine ⟨?_, List.pairwise_append.mpr ⟨m.ord, List.Pairwise.drop sa, m.ua⟩⟩
  have := m.perm
  rw [List.take_of_length_le hb] at this
  refine (this.append_right _).trans ?_
  rw [List.append_assoc]
  refine (List.Perm.append_left _ List.perm_append_comm).trans ?_
  rw [← List.append_assoc, List.take_append_drop]
theorem MI.last (m : MI lt la lb o ia ib) (sa : la.Pairwise (le lt)) (sb : lb.Pairwise (le lt)) (hl : ∀ q ∈ lb.drop ib, ∀ p ∈ la.drop ia, le lt q p) :
    (o ++ lb.drop ib ++ la.drop ia).Perm (la ++ lb) ∧ (o ++ lb.drop ib ++ la.drop ia).Pairwise (le lt) := by
  refine ⟨?_, List.pairwise_append.mpr ⟨List.pairwise_append.mpr ⟨m.ord, List.Pairwise.drop sb, m.ub⟩, List.Pairwise.drop sa, fun p hp q hq => ?_⟩⟩
  · have := m.perm
    refine ((this.append_right _).append_right _).trans ?_
    have e1 : (la.take ia ++ lb.take ib ++ lb.drop ib ++ la.drop ia) = la.take ia ++ (lb ++ la.drop ia) := by
      rw [List.append_assoc (la.take ia), List.take_append_drop, List.append_assoc]
    rw [e1]
    refine (List.Perm.append_left _ List.perm_append_comm).trans ?_
    rw [← List.append_assoc, List.take_append_drop]
  · rcases List.mem_append.mp hp with hp | hp
    · exact m.ua p hp q hq
    · exact hl p hp q hq
end
abbrev mLo' : Array Keyed → Array Keyed → StateT SortSt Sem (Array Keyed) := sortPriv% PySem.Builtin.mergeLo
abbrev setG' (g : Nat) : StateT SortSt Sem Unit := modify fun z => SortSt.mk' (kindOf z) (arrOf z) (pendingOf z) g (failedOf z)
theorem bc {α β : Type} {m : StateT SortSt Sem α} {f g : α → StateT SortSt Sem β} (h : ∀ x, f x = g x) : m >>= f = m >>= g := by rw [funext h]
theorem bc2 {α β : Type} {m n : StateT SortSt Sem α} {f g : α → StateT SortSt Sem β} (hm : m = n) (h : ∀ x, f x = g x) : m >>= f = n >>= g := by rw [hm, funext h]
theorem fc {β : Type} {r : Std.Legacy.Range} {b : β} {f g : Nat → β → StateT SortSt Sem (ForInStep β)} (h : ∀ x u, f x u = g x u) : forIn r b f = forIn r b g := by
  rw [show f = g from funext fun x => funext fun u => h x u]
abbrev TI := Option (Array Keyed) × Array Keyed × Nat × Nat × Nat × Nat
abbrev TG := Option (Array Keyed) × Array Keyed × Nat × Nat × Nat × Nat × Nat
abbrev TO := Option (Array Keyed) × Array Keyed × Nat × Nat × Nat
section
variable (a b : Array Keyed)
def fiL (o : Array Keyed) (i j : Nat) : Array Keyed := o ++ a.extract i a.size ++ b.extract j b.size
def laL (o : Array Keyed) (i j : Nat) : Array Keyed := o ++ b.extract j b.size ++ a.extract i a.size
def loI (g : Nat) (t : TI) : StateT SortSt Sem (ForInStep TI) := do
  match ← lt' (← elem' b t.2.2.2.1) (← elem' a t.2.2.1) with
  | some wi =>
    if wi = true then
      let x ← elem' b t.2.2.2.1
      if (t.2.2.2.1 + 1 == b.size) = true then pure (.done (some (fiL a b (t.2.1.push x) t.2.2.1 (t.2.2.2.1 + 1)), t.2.1.push x, t.2.2.1, t.2.2.2.1 + 1, 0, t.2.2.2.2.2 + 1))
      else if t.2.2.2.2.2 + 1 ≥ g then pure (.done (none, t.2.1.push x, t.2.2.1, t.2.2.2.1 + 1, 0, t.2.2.2.2.2 + 1))
      else pure (.yield (none, t.2.1.push x, t.2.2.1, t.2.2.2.1 + 1, 0, t.2.2.2.2.2 + 1))
    else
      let x ← elem' a t.2.2.1
      if (t.2.2.1 + 1 + 1 == a.size) = true then pure (.done (some (laL a b (t.2.1.push x) (t.2.2.1 + 1) t.2.2.2.1), t.2.1.push x, t.2.2.1 + 1, t.2.2.2.1, t.2.2.2.2.1 + 1, 0))
      else if t.2.2.2.2.1 + 1 ≥ g then pure (.done (none, t.2.1.push x, t.2.2.1 + 1, t.2.2.2.1, t.2.2.2.2.1 + 1, 0))
      else pure (.yield (none, t.2.1.push x, t.2.2.1 + 1, t.2.2.2.1, t.2.2.2.2.1 + 1, 0))
  | _ => pure (.done (some (fiL a b t.2.1 t.2.2.1 t.2.2.2.1), t.2.1, t.2.2.1, t.2.2.2.1, t.2.2.2.2.1, t.2.2.2.2.2))
def loD (o : Array Keyed) (i j g c d : Nat) : StateT SortSt Sem (ForInStep TG) := do
  let x ← elem' a i
  if (i + 1 + 1 == a.size) = true then pure (.done (some (laL a b (o.push x) (i + 1) j), o.push x, i + 1, j, g, c, d))
  else if (decide (c < 7) && decide (d < 7)) = true then pure (.done (none, o.push x, i + 1, j, g, c, d))
  else pure (.yield (none, o.push x, i + 1, j, g, c, d))
def loC (o : Array Keyed) (i j g c d : Nat) : StateT SortSt Sem (ForInStep TG) := do
  let x ← elem' b j
  if (j + 1 == b.size) = true then pure (.done (some (fiL a b (o.push x) i (j + 1)), o.push x, i, j + 1, g, c, d))
  else do
    match ← gal' true (← elem' a i) b (j + 1) (b.size - (j + 1)) 0 with
    | some k =>
      if k > 0 then
        if (j + 1 + k == b.size) = true then pure (.done (some (fiL a b (o.push x ++ b.extract (j + 1) (j + 1 + k)) i (j + 1 + k)), o.push x ++ b.extract (j + 1) (j + 1 + k), i, j + 1 + k, g, c, k))
        else loD a b (o.push x ++ b.extract (j + 1) (j + 1 + k)) i (j + 1 + k) g c k
      else loD a b (o.push x) i (j + 1) g c k
    | _ => pure (.done (some (fiL a b (o.push x) i (j + 1)), o.push x, i, j + 1, g, c, d))
def loB (o : Array Keyed) (i j g c d : Nat) : StateT SortSt Sem (ForInStep TG) := do
  setG' g
  match ← gal' false (← elem' b j) a i (a.size - i) 0 with
  | some k =>
    if k > 0 then
      if (i + k + 1 == a.size) = true then pure (.done (some (laL a b (o ++ a.extract i (i + k)) (i + k) j), o ++ a.extract i (i + k), i + k, j, g, k, d))
      else if (i + k == a.size) = true then pure (.done (some (fiL a b (o ++ a.extract i (i + k)) (i + k) j), o ++ a.extract i (i + k), i + k, j, g, k, d))
      else loC a b (o ++ a.extract i (i + k)) (i + k) j g k d
    else loC a b o i j g k d
  | _ => pure (.done (some (fiL a b o i j), o, i, j, g, c, d))
def loG (t : TG) : StateT SortSt Sem (ForInStep TG) :=
  if t.2.2.2.2.1 > 1 then loB a b t.2.1 t.2.2.1 t.2.2.2.1 (t.2.2.2.2.1 - 1) t.2.2.2.2.2.1 t.2.2.2.2.2.2 else loB a b t.2.1 t.2.2.1 t.2.2.2.1 t.2.2.2.2.1 t.2.2.2.2.2.1 t.2.2.2.2.2.2
def loO (t : TO) : StateT SortSt Sem (ForInStep TO) := do
  let u ← forIn [0:a.size + b.size] ((none, t.2.1, t.2.2.1, t.2.2.2.1, 0, 0) : TI) fun _ => loI a b t.2.2.2.2
  match u.1 with
  | some r => pure (.done (some r, u.2.1, u.2.2.1, u.2.2.2.1, t.2.2.2.2))
  | none => do
    rule "list.sort.gallop"
    let v ← forIn [0:a.size + b.size] ((none, u.2.1, u.2.2.1, u.2.2.2.1, t.2.2.2.2 + 1, u.2.2.2.2.1, u.2.2.2.2.2) : TG) fun _ => loG a b
    match v.1 with
    | some r => pure (.done (some r, v.2.1, v.2.2.1, v.2.2.2.1, v.2.2.2.2.1))
    | none => do
      setG' (v.2.2.2.2.1 + 1)
      pure (.yield (none, v.2.1, v.2.2.1, v.2.2.2.1, v.2.2.2.2.1 + 1))
end
theorem mLo'_lit (a b : Array Keyed) : mLo' a b = (do
  rule "list.sort.merge-lo"
  let all := a.size + b.size
  let fi (o : Array Keyed) (i j : Nat) := o ++ a.extract i a.size ++ b.extract j b.size
  let la (o : Array Keyed) (i j : Nat) := o ++ b.extract j b.size ++ a.extract i a.size
  let mut o : Array Keyed := #[← elem' b 0]
  let mut i := 0
  let mut j := 1
  if j == b.size then return fi o i j
  if i + 1 == a.size then return la o i j
  let mut g := gallopOf (← get)
  for _ in [0:all] do
    let mut c := 0
    let mut d := 0
    for _ in [0:all] do
      let some wi ← lt' (← elem' b j) (← elem' a i) | return fi o i j
      if wi then
        o := o.push (← elem' b j); j := j + 1; d := d + 1; c := 0
        if j == b.size then return fi o i j
        if d ≥ g then break
      else
        o := o.push (← elem' a i); i := i + 1; c := c + 1; d := 0
        if i + 1 == a.size then return la o i j
        if c ≥ g then break
    rule "list.sort.gallop"
    g := g + 1
    for _ in [0:all] do
      if g > 1 then g := g - 1
      setG' g
      let some k ← gal' false (← elem' b j) a i (a.size - i) 0 | return fi o i j
      c := k
      if k > 0 then
        o := o ++ a.extract i (i + k); i := i + k
        if i + 1 == a.size then return la o i j
        if i == a.size then return fi o i j
      o := o.push (← elem' b j); j := j + 1
      if j == b.size then return fi o i j
      let some k ← gal' true (← elem' a i) b j (b.size - j) 0 | return fi o i j
      d := k
      if k > 0 then
        o := o ++ b.extract j (j + k); j := j + k
        if j == b.size then return fi o i j
      o := o.push (← elem' a i); i := i + 1
      if i + 1 == a.size then return la o i j
      if c < 7 && d < 7 then break
    g := g + 1
    setG' g
  unsupported "internal:list.sort.merge-bound") := rfl
theorem mLo'_eq (a b : Array Keyed) : mLo' a b = (do
  rule "list.sort.merge-lo"
  let x ← elem' b 0
  if (1 == b.size) = true then return fiL a b #[x] 0 1
  if (0 + 1 == a.size) = true then return laL a b #[x] 0 1
  let z ← get
  let t ← forIn [0:a.size + b.size] ((none, #[x], 0, 1, gallopOf z) : TO) fun _ => loO a b
  match t.1 with
  | some r => pure r
  | none => unsupported "internal:list.sort.merge-bound") := by
  rw [mLo'_lit]
  dsimp only
  refine bc fun _ => bc fun x => ite_congr rfl (fun _ => rfl) fun _ => ite_congr rfl (fun _ => rfl) fun _ => bc fun z => bc2 (fc fun _ t => ?_) fun t => ?_
  · unfold loO
    refine bc2 (fc fun _ u => ?_) fun u => ?_
    · rfl
    · cases e : u.1 with
      | some r => rfl
      | none =>
        refine bc fun _ => bc2 (fc fun _ v => ?_) fun v => ?_
        · unfold loG
          refine ite_congr rfl (fun _ => ?_) (fun _ => ?_)
          all_goals
            unfold loB
            refine bc fun _ => bc fun y => bc fun k => ?_
            cases k with
            | none => rfl
            | some k =>
              dsimp only
              refine ite_congr rfl (fun _ => ite_congr rfl (fun _ => rfl) fun _ => ite_congr rfl (fun _ => rfl) fun _ => ?_) (fun _ => ?_)
              all_goals
                unfold loC
                refine bc fun y => ite_congr rfl (fun _ => rfl) fun _ => bc fun y => bc fun k => ?_
                cases k with
                | none => rfl
                | some k => rfl
        · cases e : v.1 <;> rfl
  · cases e : t.1 <;> rfl
end Srt
set_option maxRecDepth 100000
set_option maxHeartbeats 4000000
namespace Srt
open PySem PyProof.Rows
def Eg (st st' : SortSt) : Prop := kindOf st' = kindOf st ∧ arrOf st' = arrOf st ∧ pendingOf st' = pendingOf st ∧ failedOf st' = failedOf st
theorem Eg.rfl' (st : SortSt) : Eg st st := ⟨rfl, rfl, rfl, rfl⟩
theorem Eg.trans {a b c : SortSt} (h : Eg a b) (k : Eg b c) : Eg a c := ⟨k.1.trans h.1, k.2.1.trans h.2.1, k.2.2.1.trans h.2.2.1, k.2.2.2.trans h.2.2.2⟩
section
variable {prog : Program} {w : World} {A : Around} {E : Value → Shared → Prop} {s : Shared} {κ : SortKind} {G : Value → Prop} {lt : Value → Value → Bool}
theorem wpS_setG {st : SortSt} {g : Nat} {Q : Unit → SortSt → Prop} (h : ∀ st', Eg st st' → Q () st') : wpS (model prog w) A E s (setG' g) Q st := wpS_modify (h _ ⟨rfl, rfl, rfl, rfl⟩)
variable {a b : Array Keyed}
def Rm (lt : Value → Value → Bool) (a b r : Array Keyed) : Prop := r.toList.Perm (a.toList ++ b.toList) ∧ r.toList.Pairwise (le lt)
structure Mh (G : Value → Prop) (lt : Value → Value → Bool) (a b : Array Keyed) : Prop where
  ga : ∀ p ∈ a.toList, G p.1
  gb : ∀ p ∈ b.toList, G p.1
  sa : a.toList.Pairwise (le lt)
  sb : b.toList.Pairwise (le lt)
  ha : 1 ≤ a.size
  hb : 1 ≤ b.size
  first : ∀ q ∈ a.toList, lt (b[0]'hb).1 q.1 = true
  last : ∀ q ∈ b.toList, lt q.1 (a[a.size - 1]'(by lia)).1 = true
def OkM (lt : Value → Value → Bool) (a b : Array Keyed) (n : Nat) (x : Option (Array Keyed)) (o : Array Keyed) (i j : Nat) : Prop := match x with
  | some r => Rm lt a b r
  | none => MI lt a.toList b.toList o.toList i j ∧ i + 1 < a.size ∧ j < b.size ∧ n ≤ i + j
theorem ext_drop (x : Array Keyed) (i : Nat) : (x.extract i x.size).toList = x.toList.drop i := by
  rw [Array.toList_extract]
  show (x.toList.drop i).take (x.size - i) = _
  exact List.take_of_length_le (by simp)
theorem fiR {o : Array Keyed} {i j : Nat} (m : MI lt a.toList b.toList o.toList i j) (sa : a.toList.Pairwise (le lt)) (hj : j = b.size) : Rm lt a b (fiL a b o i j) := by
  have := m.fin sa (by simp; lia)
  unfold Rm fiL
  subst hj
  have e : (o ++ a.extract i a.size ++ b.extract b.size b.size).toList = o.toList ++ a.toList.drop i := by
    rw [Array.toList_append, Array.toList_append, ext_drop, ext_drop]
    simp
  rw [e]
  exact this
theorem laR {o : Array Keyed} {i j : Nat} (H : Mh G lt a b) (C : Cmp prog w A s κ G lt) (m : MI lt a.toList b.toList o.toList i j) (hi : i + 1 = a.size) : Rm lt a b (laL a b o i j) := by
  have e1 : a.toList.drop i = [a[i]'(by lia)] := by
    rw [List.drop_eq_getElem_cons (by simp; lia)]
    simp; lia
  have := m.last H.sa H.sb (fun q hq p hp => by
    rw [e1] at hp
    rw [List.mem_singleton.mp hp]
    have h1 := H.last q (List.mem_of_mem_drop hq)
    have e2 : a[a.size - 1]'(by have := H.ha; lia) = a[i]'(by lia) := by congr 1; lia
    rw [e2] at h1
    exact C.asy _ _ h1)
  unfold Rm laL
  have e : (o ++ b.extract j b.size ++ a.extract i a.size).toList = o.toList ++ b.toList.drop j ++ a.toList.drop i := by
    rw [Array.toList_append, Array.toList_append, ext_drop, ext_drop]
  rw [e]
  exact this
theorem le_tra (C : Cmp prog w A s κ G lt) {x y z : Keyed} (h : le lt x y) (k : le lt y z) : le lt x z := C.tra _ _ _ h k
theorem le_from (C : Cmp prog w A s κ G lt) {l : List Keyed} (sl : l.Pairwise (le lt)) {i : Nat} (hi : i < l.length) {x : Keyed} (h : le lt x l[i]) : ∀ q ∈ l.drop i, le lt x q := by
  intro q hq
  rw [List.drop_eq_getElem_cons hi] at hq
  rcases List.mem_cons.mp hq with rfl | hq
  · exact h
  · exact le_tra C h (le_drop sl hi q hq)
theorem le_at {l : List Keyed} (C : Cmp prog w A s κ G lt) (hr : ∀ x : Keyed, lt x.1 x.1 = false) (sl : l.Pairwise (le lt)) {i j : Nat} (hij : i ≤ j) (hj : j < l.length) : le lt (l[i]'(by lia)) l[j] := by
  rcases Nat.lt_or_ge i j with h | h
  · exact List.pairwise_iff_getElem.mp sl i j (by lia) hj h
  · have : i = j := by lia
    subst this
    exact hr _
theorem Cmp.irr (C : Cmp prog w A s κ G lt) (x : Value) : lt x x = false := by
  cases e : lt x x
  · rfl
  · have := C.asy _ _ e; rw [e] at this; cases this
theorem wpS_loI (C : Cmp prog w A s κ G lt) (H : Mh G lt a b) {st : SortSt} {g n c d : Nat} {o : Array Keyed} {i j : Nat} (hk : kindOf st = κ) (h : OkM lt a b n none o i j) :
    wpS (model prog w) A E s (loI a b g (none, o, i, j, c, d)) (fun r st' => st' = st ∧ match r with
      | .done u => OkM lt a b (n + 1) u.1 u.2.1 u.2.2.1 u.2.2.2.1
      | .yield u => u.1 = none ∧ OkM lt a b (n + 1) none u.2.1 u.2.2.1 u.2.2.2.1) st := by
  obtain ⟨m, hi, hj, hn⟩ := h
  unfold loI
  dsimp only
  refine wpS_bind (wpS_elem hj (wpS_bind (wpS_elem (by lia) (wpS_bind (wpS_far (C := C) hk (H.gb _ (by simp)) (H.ga _ (by simp)) ?_)))))
  dsimp only
  cases e : lt (b[j]).1 (a[i]).1
  · simp only [Bool.false_eq_true, if_false]
    refine wpS_bind (wpS_elem (by lia) ?_)
    have m2 : MI lt a.toList b.toList (o.push a[i]).toList (i + 1) j := by
      have := m.step H.sa (by simp; lia) (le_from C H.sb (by simp; lia) (i := j) (x := a.toList[i]'(by simp; lia)) (by simpa [le] using e))
      simpa using this
    split
    · rename_i e2
      exact wpS_pure ⟨rfl, laR H C m2 (by simpa using e2)⟩
    · rename_i e2
      have e2' : i + 1 + 1 ≠ a.size := by simpa using e2
      split
      · exact wpS_pure ⟨rfl, m2, by first | lia | (dsimp only; lia), hj, by first | lia | (dsimp only; lia)⟩
      · exact wpS_pure ⟨rfl, rfl, m2, by first | lia | (dsimp only; lia), hj, by first | lia | (dsimp only; lia)⟩
  · simp only [if_true]
    refine wpS_bind (wpS_elem hj ?_)
    have m2 : MI lt a.toList b.toList (o.push b[j]).toList i (j + 1) := by
      have := m.swap.step H.sb (by simp; lia) (le_from C H.sa (by simp; lia) (i := i) (x := b.toList[j]'(by simp; lia)) (by have := C.asy _ _ e; simpa [le] using this))
      simpa using this.swap
    split
    · rename_i e2
      exact wpS_pure ⟨rfl, fiR m2 H.sa (by simpa using e2)⟩
    · rename_i e2
      have e2' : j + 1 ≠ b.size := by simpa using e2
      split
      · exact wpS_pure ⟨rfl, m2, by first | lia | (dsimp only; lia), by first | lia | (dsimp only; lia), by first | lia | (dsimp only; lia)⟩
      · exact wpS_pure ⟨rfl, rfl, m2, by first | lia | (dsimp only; lia), by first | lia | (dsimp only; lia), by first | lia | (dsimp only; lia)⟩
abbrev QG (lt : Value → Value → Bool) (a b : Array Keyed) (n : Nat) (st : SortSt) : ForInStep TG → SortSt → Prop := fun r st' => Eg st st' ∧ match r with
      | .done u => OkM lt a b n u.1 u.2.1 u.2.2.1 u.2.2.2.1
      | .yield u => u.1 = none ∧ OkM lt a b n none u.2.1 u.2.2.1 u.2.2.2.1
theorem wpS_loD (C : Cmp prog w A s κ G lt) (H : Mh G lt a b) {st : SortSt} {n g c d : Nat} {o : Array Keyed} {i j : Nat} (m : MI lt a.toList b.toList o.toList i j) (hi : i + 1 < a.size) (hj : j < b.size) (hn : n ≤ i + j)
    (hq : ∀ q ∈ b.toList.drop j, le lt a[i] q) : wpS (model prog w) A E s (loD a b o i j g c d) (QG lt a b n st) st := by
  unfold loD
  refine wpS_bind (wpS_elem (by lia) ?_)
  have m2 : MI lt a.toList b.toList (o.push a[i]).toList (i + 1) j := by
    have := m.step H.sa (by simp; lia) (by simpa using hq)
    simpa using this
  split
  · rename_i e2
    exact wpS_pure ⟨Eg.rfl' _, laR H C m2 (by simpa using e2)⟩
  · rename_i e2
    have e2' : i + 1 + 1 ≠ a.size := by simpa using e2
    split
    · exact wpS_pure ⟨Eg.rfl' _, m2, by first | lia | (dsimp only; lia), hj, by first | lia | (dsimp only; lia)⟩
    · exact wpS_pure ⟨Eg.rfl' _, rfl, m2, by first | lia | (dsimp only; lia), hj, by first | lia | (dsimp only; lia)⟩
theorem wpS_loC (C : Cmp prog w A s κ G lt) (H : Mh G lt a b) {st : SortSt} {n g c d : Nat} {o : Array Keyed} {i j : Nat} (hk : kindOf st = κ) (m : MI lt a.toList b.toList o.toList i j) (hi : i + 1 < a.size) (hj : j < b.size) (hn : n ≤ i + j)
    (hq : ∀ q ∈ a.toList.drop i, le lt b[j] q) : wpS (model prog w) A E s (loC a b o i j g c d) (QG lt a b n st) st := by
  unfold loC
  refine wpS_bind (wpS_elem hj ?_)
  have m2 : MI lt a.toList b.toList (o.push b[j]).toList i (j + 1) := by
    have := m.swap.step H.sb (by simp; lia) (by simpa using hq)
    simpa using this.swap
  split
  · rename_i e2
    exact wpS_pure ⟨Eg.rfl' _, fiR m2 H.sa (by simpa using e2)⟩
  · rename_i e2
    have e2' : j + 1 ≠ b.size := by simpa using e2
    refine wpS_bind (wpS_elem (by lia) (wpS_bind (wpS_gal C hk (H.ga _ (by simp)) H.gb (by lia) (by lia) (fun x y hxy hy h1 => ?_) fun k hk1 k1 k2 => ?_)))
    · simp only [far1, if_true] at h1 ⊢
      have hle := le_at C (fun x => C.irr _) H.sb (i := j + 1 + x) (j := j + 1 + y) (by lia) (by simp; lia)
      cases e3 : lt (b[j + 1 + x]'(by lia)).1 (a[i]).1
      · have := C.tra _ _ _ e3 (by simpa [le] using hle)
        rw [this] at h1; cases h1
      · rfl
    · dsimp only
      have k1' : ∀ x, (hx : x < k) → (hb : j + 1 + x < b.size) → lt (b[j + 1 + x]).1 (a[i]).1 = true := fun x hx hb => by
        have := k1 x hx (by lia); simpa [far1] using this
      have k2' : ∀ q ∈ b.toList.drop (j + 1 + k), le lt a[i] q := by
        intro q hq'
        obtain ⟨y, hy, rfl⟩ := List.mem_iff_getElem.mp hq'
        simp only [List.length_drop, Array.length_toList] at hy
        have := k2 (k + y) (by lia) (by lia)
        simp only [far1, if_true] at this
        simp only [List.getElem_drop, Array.getElem_toList, le]
        rw [← this]
        congr 3; lia
      split
      · have m3 : MI lt a.toList b.toList (o.push b[j] ++ b.extract (j + 1) (j + 1 + k)).toList i (j + 1 + k) := by
          have := m2.swap.steps H.sb k (by simp; lia) (fun x hx hl => le_from C H.sa (i := i) (by simp; lia) (by
            have := C.asy _ _ (k1' x hx (by simpa using hl))
            simpa [le] using this))
          have e4 : (o.push b[j] ++ b.extract (j + 1) (j + 1 + k)).toList = (o.push b[j]).toList ++ (b.toList.drop (j + 1)).take k := by
            rw [Array.toList_append, Array.toList_extract]
            simp [List.extract]
          rw [e4]
          exact this.swap
        split
        · rename_i e5
          exact wpS_pure ⟨Eg.rfl' _, fiR m3 H.sa (by simpa using e5)⟩
        · rename_i e5
          have e5' : j + 1 + k ≠ b.size := by simpa using e5
          exact wpS_loD C H m3 hi (by lia) (by lia) k2'
      · rename_i e5
        have : k = 0 := by lia
        subst this
        exact wpS_loD C H m2 hi (by lia) (by lia) k2'
theorem wpS_loB (C : Cmp prog w A s κ G lt) (H : Mh G lt a b) {st : SortSt} {n g c d : Nat} {o : Array Keyed} {i j : Nat} (hk : kindOf st = κ) (h : OkM lt a b n none o i j) :
    wpS (model prog w) A E s (loB a b o i j g c d) (QG lt a b n st) st := by
  obtain ⟨m, hi, hj, hn⟩ := h
  unfold loB
  refine wpS_bind (wpS_setG fun st' eg => ?_)
  have hk' : kindOf st' = κ := eg.1.trans hk
  have up : ∀ r st'', QG lt a b n st' r st'' → QG lt a b n st r st'' := fun r st'' q => ⟨eg.trans q.1, q.2⟩
  refine wpS_bind (wpS_elem hj (wpS_bind (wpS_gal C hk' (H.gb _ (by simp)) H.ga (by lia) (by lia) (fun x y hxy hy h1 => ?_) fun k hk1 k1 k2 => ?_)))
  · simp only [far1, Bool.false_eq_true, if_false, Bool.not_eq_true'] at h1 ⊢
    have hle := le_at C (fun x => C.irr _) H.sa (i := i + x) (j := i + y) (by lia) (by simp; lia)
    exact C.tra _ _ _ (by simpa [le] using hle) h1
  · dsimp only
    have k1' : ∀ x, (hx : x < k) → (hb : i + x < a.size) → lt (b[j]).1 (a[i + x]).1 = false := fun x hx hb => by
      have := k1 x hx (by lia); simpa [far1] using this
    have hlt : i + k < a.size := by
      rcases Nat.lt_or_ge (i + k) a.size with h1 | h1
      · exact h1
      · have h2 := k1' (a.size - 1 - i) (by lia) (by lia)
        have h3 := H.last b[j] (by simp)
        have e2 : a[i + (a.size - 1 - i)]'(by lia) = a[a.size - 1]'(by lia) := by congr 1; lia
        rw [e2, h3] at h2; cases h2
    have k2' : ∀ q ∈ a.toList.drop (i + k), le lt b[j] q := by
      intro q hq'
      obtain ⟨y, hy, rfl⟩ := List.mem_iff_getElem.mp hq'
      simp only [List.length_drop, Array.length_toList] at hy
      have := k2 (k + y) (by lia) (by lia)
      simp only [far1, Bool.false_eq_true, if_false, Bool.not_eq_false'] at this
      have := C.asy _ _ this
      simp only [List.getElem_drop, Array.getElem_toList, le]
      rw [← this]
      congr 3; lia
    split
    · have m3 : MI lt a.toList b.toList (o ++ a.extract i (i + k)).toList (i + k) j := by
        have := m.steps H.sa k (by simp; lia) (fun x hx hl => le_from C H.sb (i := j) (by simp; lia) (by
          have := k1' x hx (by simpa using hl)
          simpa [le] using this))
        have e4 : (o ++ a.extract i (i + k)).toList = o.toList ++ (a.toList.drop i).take k := by
          rw [Array.toList_append, Array.toList_extract]
          simp [List.extract]
        rw [e4]
        exact this
      split
      · rename_i e5
        exact wpS_pure (up _ _ ⟨Eg.rfl' _, laR H C m3 (by simpa using e5)⟩)
      · rename_i e5
        have e5' : i + k + 1 ≠ a.size := by simpa using e5
        split
        · rename_i e6
          have e6' : i + k = a.size := by simpa using e6
          lia
        · exact wpS_mono (wpS_loC C H hk' m3 (by lia) hj (by lia) k2') up
    · rename_i e5
      have : k = 0 := by lia
      subst this
      exact wpS_mono (wpS_loC C H hk' m hi hj (by lia) k2') up
theorem wpS_loO (C : Cmp prog w A s κ G lt) (H : Mh G lt a b) {st : SortSt} {n : Nat} {t : TO} (ht : t.1 = none) (hk : kindOf st = κ) (h : OkM lt a b n none t.2.1 t.2.2.1 t.2.2.2.1) :
    wpS (model prog w) A E s (loO a b t) (fun r st' => Eg st st' ∧ match r with
      | .done u => (∃ x, u.1 = some x) ∧ OkM lt a b (n + 1) u.1 u.2.1 u.2.2.1 u.2.2.2.1
      | .yield u => u.1 = none ∧ OkM lt a b (n + 1) none u.2.1 u.2.2.1 u.2.2.2.1) st := by
  unfold loO
  refine wpS_bind (wpS_mono (wpS_forRange (I := fun x u st' => st' = st ∧ u.1 = none ∧ OkM lt a b (n + x) none u.2.1 u.2.2.1 u.2.2.2.1)
    (Q := fun u st' => st' = st ∧ OkM lt a b (n + 1) u.1 u.2.1 u.2.2.1 u.2.2.2.1) ?_ ?_ ⟨rfl, rfl, h⟩) ?_)
  · rintro x ⟨u1, o, i, j, c, d⟩ st' _ hx ⟨rfl, rfl, h'⟩
    refine wpS_mono (wpS_loI C H hk h') ?_
    rintro r st'' ⟨rfl, hr⟩
    cases r with
    | done u =>
      refine ⟨rfl, ?_⟩
      dsimp only at hr ⊢
      unfold OkM at hr ⊢
      split at hr
      · exact hr
      · exact ⟨hr.1, hr.2.1, hr.2.2.1, by lia⟩
    | yield u => exact ⟨rfl, hr.1, hr.2.1, hr.2.2.1, hr.2.2.2.1, by have := hr.2.2.2.2; lia⟩
  · rintro u st' ⟨rfl, hu, m, h1, h2, h3⟩
    rw [hu]
    exact ⟨rfl, m, h1, h2, by lia⟩
  · rintro ⟨u1, o, i, j, c, d⟩ st' ⟨rfl, hu⟩
    cases u1 with
    | some r => exact wpS_pure ⟨Eg.rfl' _, ⟨r, rfl⟩, hu⟩
    | none =>
      dsimp only at hu ⊢
      refine wpS_bind (wpS_lift (wpAny_rule ⟨rfl, ?_⟩))
      refine wpS_bind (wpS_mono (wpS_forRange (I := fun x v st'' => Eg st' st'' ∧ v.1 = none ∧ OkM lt a b (n + 1) none v.2.1 v.2.2.1 v.2.2.2.1)
        (Q := fun v st'' => Eg st' st'' ∧ OkM lt a b (n + 1) v.1 v.2.1 v.2.2.1 v.2.2.2.1) ?_ ?_ ⟨Eg.rfl' _, rfl, hu⟩) ?_)
      · rintro x ⟨v1, o, i, j, g, c, d⟩ st'' _ hx ⟨eg, rfl, h'⟩
        unfold loG
        dsimp only at h' ⊢
        have key : ∀ g', wpS (model prog w) A E s (loB a b o i j g' c d) (fun r st3 => match r with
            | .done v => Eg st' st3 ∧ OkM lt a b (n + 1) v.1 v.2.1 v.2.2.1 v.2.2.2.1
            | .yield v => Eg st' st3 ∧ v.1 = none ∧ OkM lt a b (n + 1) none v.2.1 v.2.2.1 v.2.2.2.1) st'' := by
          intro g'
          refine wpS_mono (wpS_loB C H (eg.1.trans hk) h') ?_
          rintro r st3 ⟨eg3, hr⟩
          cases r with
          | done v => exact ⟨eg.trans eg3, hr⟩
          | yield v => exact ⟨eg.trans eg3, hr⟩
        split
        · exact wpS_mono (key _) fun r st3 hr => by cases r <;> exact hr
        · exact wpS_mono (key _) fun r st3 hr => by cases r <;> exact hr
      · rintro v st'' ⟨eg, hv, h'⟩
        rw [hv]
        exact ⟨eg, h'⟩
      · rintro ⟨v1, o, i, j, g, c, d⟩ st'' ⟨eg, hv⟩
        cases v1 with
        | some r => exact wpS_pure ⟨eg, ⟨r, rfl⟩, hv⟩
        | none =>
          dsimp only at hv ⊢
          exact wpS_bind (wpS_setG fun st3 eg3 => wpS_pure ⟨eg.trans eg3, rfl, hv⟩)
theorem wpS_mLo (C : Cmp prog w A s κ G lt) (H : Mh G lt a b) {st : SortSt} {Q : Array Keyed → SortSt → Prop} (hk : kindOf st = κ) (h : ∀ r st', Eg st st' → Rm lt a b r → Q r st') :
    wpS (model prog w) A E s (mLo' a b) Q st := by
  rw [mLo'_eq]
  refine wpS_bind (wpS_lift (wpAny_rule ⟨rfl, ?_⟩))
  have hb := H.hb
  have ha := H.ha
  refine wpS_bind (wpS_elem (by lia) ?_)
  have m : MI lt a.toList b.toList (#[b[0]] : Array Keyed).toList 0 1 := by
    refine ⟨?_, ?_, ?_, ?_⟩
    · have e : b.toList.take 1 = [b[0]] := by
        rw [show (1 : Nat) = 0 + 1 from rfl, List.take_succ_eq_append_getElem (by simp; lia)]
        simp
      rw [e]; simp
    · simp
    · intro p hp q hq
      have : p = b[0] := by simpa using hp
      subst this
      exact C.asy _ _ (H.first q (by simpa using hq))
    · intro p hp q hq
      have : p = b[0] := by simpa using hp
      subst this
      have := le_drop H.sb (ia := 0) (by simp; lia) q hq
      simpa using this
  split
  · rename_i e
    exact wpS_pure (h _ _ (Eg.rfl' _) (fiR m H.sa (by simpa using e)))
  · rename_i e
    have e' : 1 ≠ b.size := by simpa using e
    split
    · rename_i e2
      exact wpS_pure (h _ _ (Eg.rfl' _) (laR H C m (by simpa using e2)))
    · rename_i e2
      have e2' : 1 ≠ a.size := by simpa using e2
      refine wpS_bind (wpS_get ?_)
      refine wpS_bind (wpS_mono (wpS_forRange (I := fun x u st' => Eg st st' ∧ u.1 = none ∧ OkM lt a b x none u.2.1 u.2.2.1 u.2.2.2.1)
        (Q := fun u st' => Eg st st' ∧ ∃ r, u.1 = some r ∧ Rm lt a b r) ?_ ?_ ⟨Eg.rfl' _, rfl, m, by first | lia | (dsimp only; lia), by first | lia | (dsimp only; lia), by first | lia | (dsimp only; lia)⟩) ?_)
      · rintro x t st' _ hx ⟨eg, ht, h'⟩
        refine wpS_mono (wpS_loO C H ht (eg.1.trans hk) h') ?_
        rintro r st'' ⟨eg2, hr⟩
        cases r with
        | done u =>
          obtain ⟨⟨r, hr1⟩, hr2⟩ := hr
          rw [hr1] at hr2
          exact ⟨eg.trans eg2, r, hr1, hr2⟩
        | yield u => exact ⟨eg.trans eg2, hr.1, hr.2⟩
      · rintro u st' ⟨eg, hu, _, h1, h2, h3⟩
        lia
      · rintro ⟨u1, u2⟩ st' ⟨eg, r, hr, hR⟩
        cases hr
        exact wpS_pure (h _ _ eg hR)
end
end Srt
set_option maxRecDepth 100000
set_option maxHeartbeats 4000000
namespace Srt
open PySem PyProof.Rows
structure MJ (lt : Value → Value → Bool) (la lb o : List Keyed) (ia ib : Nat) : Prop where
  perm : o.Perm (la.drop ia ++ lb.drop ib)
  ord : o.Pairwise (fun p q => le lt q p)
  ua : ∀ p ∈ o, ∀ q ∈ la.take ia, le lt q p
  ub : ∀ p ∈ o, ∀ q ∈ lb.take ib, le lt q p
section
variable {lt : Value → Value → Bool} {la lb o : List Keyed} {ia ib : Nat}
theorem MJ.swap (h : MJ lt la lb o ia ib) : MJ lt lb la o ib ia := ⟨h.perm.trans List.perm_append_comm, h.ord, h.ub, h.ua⟩
theorem le_take (sa : la.Pairwise (le lt)) (h : ia < la.length) : ∀ q ∈ la.take ia, le lt q la[ia] := by
  have s2 := List.Pairwise.take (i := ia + 1) sa
  rw [List.take_succ_eq_append_getElem h] at s2
  intro q hq
  exact (List.pairwise_append.mp s2).2.2 q hq _ (List.mem_singleton.mpr rfl)
theorem MJ.step (m : MJ lt la lb o (ia + 1) ib) (sa : la.Pairwise (le lt)) (h : ia < la.length) (hq : ∀ q ∈ lb.take ib, le lt q la[ia]) : MJ lt la lb (o ++ [la[ia]]) ia ib := by
  have e := List.drop_eq_getElem_cons h
  have e2 := List.take_succ_eq_append_getElem h
  refine ⟨?_, ?_, ?_, ?_⟩
  · rw [e]
    refine (m.perm.append_right _).trans ?_
    refine List.perm_append_comm.trans ?_
    exact List.Perm.refl _
  · refine List.pairwise_append.mpr ⟨m.ord, List.pairwise_singleton _ _, fun p hp q hq => ?_⟩
    rw [List.mem_singleton.mp hq]
    exact m.ua p hp _ (by rw [e2]; exact List.mem_append_right _ (List.mem_singleton.mpr rfl))
  · intro p hp q hq'
    rcases List.mem_append.mp hp with hp | hp
    · exact m.ua p hp q (by rw [e2]; exact List.mem_append_left _ hq')
    · rw [List.mem_singleton.mp hp]
      exact le_take sa h q hq'
  · intro p hp q hq'
    rcases List.mem_append.mp hp with hp | hp
    · exact m.ub p hp q hq'
    · rw [List.mem_singleton.mp hp]
      exact hq q hq'
theorem MJ.steps (m : MJ lt la lb o ia ib) (sa : la.Pairwise (le lt)) (hia : ia ≤ la.length) : ∀ (k : Nat), k ≤ ia → (∀ i, (h1 : ia - k ≤ i) → (h2 : i < ia) → ∀ q ∈ lb.take ib, le lt q (la[i]'(by lia))) →
    MJ lt la lb (o ++ ((la.drop (ia - k)).take k).reverse) (ia - k) ib
  | 0, _, _ => by simpa using m
  | k + 1, hk, hq => by
    have m' := MJ.steps m sa hia k (by lia) (fun i h1 h2 => hq i (by lia) h2)
    have e0 : ia - k = ia - (k + 1) + 1 := by lia
    rw [e0] at m'
    have m2 := m'.step sa (by lia) (hq (ia - (k + 1)) (by lia) (by lia))
    have e : ((la.drop (ia - (k + 1))).take (k + 1)).reverse = ((la.drop (ia - (k + 1) + 1)).take k).reverse ++ [la[ia - (k + 1)]] := by
      rw [List.drop_eq_getElem_cons (by lia), List.take_succ_cons, List.reverse_cons]
    rw [e, ← List.append_assoc]
    exact m2
theorem rev_ord {o : List Keyed} (h : o.Pairwise (fun p q => le lt q p)) : o.reverse.Pairwise (le lt) := List.pairwise_reverse.mpr h
theorem MJ.fin (m : MJ lt la lb o ia ib) (sb : lb.Pairwise (le lt)) (ha : ia = 0) : (lb.take ib ++ o.reverse).Perm (la ++ lb) ∧ (lb.take ib ++ o.reverse).Pairwise (le lt) := by
  subst ha
  refine ⟨?_, List.pairwise_append.mpr ⟨List.Pairwise.take sb, rev_ord m.ord, fun q hq p hp => m.ub p (List.mem_reverse.mp hp) q hq⟩⟩
  have := m.perm
  rw [List.drop_zero] at this
  refine (List.Perm.append_left _ ((List.reverse_perm _).trans this)).trans ?_
  refine List.perm_append_comm.trans ?_
  rw [List.append_assoc]
  refine List.Perm.append_left _ ?_
  exact List.perm_append_comm.trans (by rw [List.take_append_drop])
theorem MJ.last (m : MJ lt la lb o ia ib) (sa : la.Pairwise (le lt)) (sb : lb.Pairwise (le lt)) (hl : ∀ q ∈ lb.take ib, ∀ p ∈ la.take ia, le lt q p) :
    (lb.take ib ++ la.take ia ++ o.reverse).Perm (la ++ lb) ∧ (lb.take ib ++ la.take ia ++ o.reverse).Pairwise (le lt) := by
  refine ⟨?_, List.pairwise_append.mpr ⟨List.pairwise_append.mpr ⟨List.Pairwise.take sb, List.Pairwise.take sa, hl⟩, rev_ord m.ord, fun q hq p hp => ?_⟩⟩
  · refine (List.Perm.append_left _ ((List.reverse_perm _).trans m.perm)).trans ?_
    rw [List.append_assoc, ← List.append_assoc (la.take ia), List.take_append_drop]
    refine (List.Perm.append_left _ List.perm_append_comm).trans ?_
    rw [← List.append_assoc, List.take_append_drop]
    exact List.perm_append_comm
  · have hp' := List.mem_reverse.mp hp
    rcases List.mem_append.mp hq with hq | hq
    · exact m.ub p hp' q hq
    · exact m.ua p hp' q hq
end
abbrev mHi' : Array Keyed → Array Keyed → StateT SortSt Sem (Array Keyed) := sortPriv% PySem.Builtin.mergeHi
abbrev TJI := Option (Array Keyed) × Nat × Nat × Array Keyed × Nat × Nat
abbrev TJG := Option (Array Keyed) × Nat × Nat × Array Keyed × Nat × Nat × Nat
abbrev TJO := Option (Array Keyed) × Nat × Nat × Array Keyed × Nat
section
variable (a b : Array Keyed)
def fiH (o : Array Keyed) (i j : Nat) : Array Keyed := a.extract 0 i ++ b.extract 0 j ++ o.reverse
def laH (o : Array Keyed) (i j : Nat) : Array Keyed := b.extract 0 j ++ a.extract 0 i ++ o.reverse
def hiI (g : Nat) (t : TJI) : StateT SortSt Sem (ForInStep TJI) := do
  match ← lt' (← elem' b (t.2.2.1 - 1)) (← elem' a (t.2.1 - 1)) with
  | some wi =>
    if wi = true then
      let x ← elem' a (t.2.1 - 1)
      if (t.2.1 - 1 == 0) = true then pure (.done (some (fiH a b (t.2.2.2.1.push x) (t.2.1 - 1) t.2.2.1), t.2.1 - 1, t.2.2.1, t.2.2.2.1.push x, t.2.2.2.2.1 + 1, 0))
      else if t.2.2.2.2.1 + 1 ≥ g then pure (.done (none, t.2.1 - 1, t.2.2.1, t.2.2.2.1.push x, t.2.2.2.2.1 + 1, 0))
      else pure (.yield (none, t.2.1 - 1, t.2.2.1, t.2.2.2.1.push x, t.2.2.2.2.1 + 1, 0))
    else
      let x ← elem' b (t.2.2.1 - 1)
      if (t.2.2.1 - 1 == 1) = true then pure (.done (some (laH a b (t.2.2.2.1.push x) t.2.1 (t.2.2.1 - 1)), t.2.1, t.2.2.1 - 1, t.2.2.2.1.push x, 0, t.2.2.2.2.2 + 1))
      else if t.2.2.2.2.2 + 1 ≥ g then pure (.done (none, t.2.1, t.2.2.1 - 1, t.2.2.2.1.push x, 0, t.2.2.2.2.2 + 1))
      else pure (.yield (none, t.2.1, t.2.2.1 - 1, t.2.2.2.1.push x, 0, t.2.2.2.2.2 + 1))
  | _ => pure (.done (some (fiH a b t.2.2.2.1 t.2.1 t.2.2.1), t.2.1, t.2.2.1, t.2.2.2.1, t.2.2.2.2.1, t.2.2.2.2.2))
def hiD (i j : Nat) (o : Array Keyed) (g c d : Nat) : StateT SortSt Sem (ForInStep TJG) := do
  let x ← elem' a (i - 1)
  if (i - 1 == 0) = true then pure (.done (some (fiH a b (o.push x) (i - 1) j), i - 1, j, o.push x, g, c, d))
  else if (decide (c < 7) && decide (d < 7)) = true then pure (.done (none, i - 1, j, o.push x, g, c, d))
  else pure (.yield (none, i - 1, j, o.push x, g, c, d))
def hiC (i j : Nat) (o : Array Keyed) (g c d : Nat) : StateT SortSt Sem (ForInStep TJG) := do
  let x ← elem' b (j - 1)
  if (j - 1 == 1) = true then pure (.done (some (laH a b (o.push x) i (j - 1)), i, j - 1, o.push x, g, c, d))
  else do
    match ← gal' true (← elem' a (i - 1)) b 0 (j - 1) (j - 1 - 1) with
    | some z =>
      if j - 1 - z > 0 then
        if (z == 1) = true then pure (.done (some (laH a b (o.push x ++ (b.extract z (j - 1)).reverse) i z), i, z, o.push x ++ (b.extract z (j - 1)).reverse, g, c, j - 1 - z))
        else if (z == 0) = true then pure (.done (some (fiH a b (o.push x ++ (b.extract z (j - 1)).reverse) i z), i, z, o.push x ++ (b.extract z (j - 1)).reverse, g, c, j - 1 - z))
        else hiD a b i z (o.push x ++ (b.extract z (j - 1)).reverse) g c (j - 1 - z)
      else hiD a b i (j - 1) (o.push x) g c (j - 1 - z)
    | _ => pure (.done (some (fiH a b (o.push x) i (j - 1)), i, j - 1, o.push x, g, c, d))
def hiB (i j : Nat) (o : Array Keyed) (g c d : Nat) : StateT SortSt Sem (ForInStep TJG) := do
  setG' g
  match ← gal' false (← elem' b (j - 1)) a 0 i (i - 1) with
  | some z =>
    if i - z > 0 then
      if (z == 0) = true then pure (.done (some (fiH a b (o ++ (a.extract z i).reverse) z j), z, j, o ++ (a.extract z i).reverse, g, i - z, d))
      else hiC a b z j (o ++ (a.extract z i).reverse) g (i - z) d
    else hiC a b i j o g (i - z) d
  | _ => pure (.done (some (fiH a b o i j), i, j, o, g, c, d))
def hiG (t : TJG) : StateT SortSt Sem (ForInStep TJG) :=
  if t.2.2.2.2.1 > 1 then hiB a b t.2.1 t.2.2.1 t.2.2.2.1 (t.2.2.2.2.1 - 1) t.2.2.2.2.2.1 t.2.2.2.2.2.2 else hiB a b t.2.1 t.2.2.1 t.2.2.2.1 t.2.2.2.2.1 t.2.2.2.2.2.1 t.2.2.2.2.2.2
def hiO (t : TJO) : StateT SortSt Sem (ForInStep TJO) := do
  let u ← forIn [0:a.size + b.size] ((none, t.2.1, t.2.2.1, t.2.2.2.1, 0, 0) : TJI) fun _ => hiI a b t.2.2.2.2
  match u.1 with
  | some r => pure (.done (some r, u.2.1, u.2.2.1, u.2.2.2.1, t.2.2.2.2))
  | none => do
    rule "list.sort.gallop"
    let v ← forIn [0:a.size + b.size] ((none, u.2.1, u.2.2.1, u.2.2.2.1, t.2.2.2.2 + 1, u.2.2.2.2.1, u.2.2.2.2.2) : TJG) fun _ => hiG a b
    match v.1 with
    | some r => pure (.done (some r, v.2.1, v.2.2.1, v.2.2.2.1, v.2.2.2.2.1))
    | none => do
      setG' (v.2.2.2.2.1 + 1)
      pure (.yield (none, v.2.1, v.2.2.1, v.2.2.2.1, v.2.2.2.2.1 + 1))
end
theorem mHi'_lit (a b : Array Keyed) : mHi' a b = (do
  rule "list.sort.merge-hi"
  let all := a.size + b.size
  let fi (o : Array Keyed) (i j : Nat) := a.extract 0 i ++ b.extract 0 j ++ o.reverse
  let la (o : Array Keyed) (i j : Nat) := b.extract 0 j ++ a.extract 0 i ++ o.reverse
  let mut i := a.size - 1
  let mut j := b.size
  let mut o : Array Keyed := #[← elem' a i]
  if i == 0 then return fi o i j
  if j == 1 then return la o i j
  let mut g := gallopOf (← get)
  for _ in [0:all] do
    let mut c := 0
    let mut d := 0
    for _ in [0:all] do
      let some wi ← lt' (← elem' b (j - 1)) (← elem' a (i - 1)) | return fi o i j
      if wi then
        i := i - 1; o := o.push (← elem' a i); c := c + 1; d := 0
        if i == 0 then return fi o i j
        if c ≥ g then break
      else
        j := j - 1; o := o.push (← elem' b j); d := d + 1; c := 0
        if j == 1 then return la o i j
        if d ≥ g then break
    rule "list.sort.gallop"
    g := g + 1
    for _ in [0:all] do
      if g > 1 then g := g - 1
      setG' g
      let some z ← gal' false (← elem' b (j - 1)) a 0 i (i - 1) | return fi o i j
      let k := i - z
      c := k
      if k > 0 then
        o := o ++ (a.extract z i).reverse; i := z
        if i == 0 then return fi o i j
      j := j - 1; o := o.push (← elem' b j)
      if j == 1 then return la o i j
      let some z ← gal' true (← elem' a (i - 1)) b 0 j (j - 1) | return fi o i j
      let k := j - z
      d := k
      if k > 0 then
        o := o ++ (b.extract z j).reverse; j := z
        if j == 1 then return la o i j
        if j == 0 then return fi o i j
      i := i - 1; o := o.push (← elem' a i)
      if i == 0 then return fi o i j
      if c < 7 && d < 7 then break
    g := g + 1
    setG' g
  unsupported "internal:list.sort.merge-bound") := rfl
theorem mHi'_eq (a b : Array Keyed) : mHi' a b = (do
  rule "list.sort.merge-hi"
  let x ← elem' a (a.size - 1)
  if (a.size - 1 == 0) = true then return fiH a b #[x] (a.size - 1) b.size
  if (b.size == 1) = true then return laH a b #[x] (a.size - 1) b.size
  let z ← get
  let t ← forIn [0:a.size + b.size] ((none, a.size - 1, b.size, #[x], gallopOf z) : TJO) fun _ => hiO a b
  match t.1 with
  | some r => pure r
  | none => unsupported "internal:list.sort.merge-bound") := by
  rw [mHi'_lit]
  dsimp only
  refine bc fun _ => bc fun x => ite_congr rfl (fun _ => rfl) fun _ => ite_congr rfl (fun _ => rfl) fun _ => bc fun z => bc2 (fc fun _ t => ?_) fun t => ?_
  · unfold hiO
    refine bc2 (fc fun _ u => ?_) fun u => ?_
    · rfl
    · cases e : u.1 with
      | some r => rfl
      | none =>
        refine bc fun _ => bc2 (fc fun _ v => ?_) fun v => ?_
        · unfold hiG
          refine ite_congr rfl (fun _ => ?_) (fun _ => ?_)
          all_goals
            unfold hiB
            refine bc fun _ => bc fun y => bc fun k => ?_
            cases k with
            | none => rfl
            | some k =>
              dsimp only
              refine ite_congr rfl (fun _ => ite_congr rfl (fun _ => rfl) fun _ => ?_) (fun _ => ?_)
              all_goals
                unfold hiC
                refine bc fun y => ite_congr rfl (fun _ => rfl) fun _ => bc fun y => bc fun k => ?_
                cases k with
                | none => rfl
                | some k => rfl
        · cases e : v.1 <;> rfl
  · cases e : t.1 <;> rfl
section
variable {prog : Program} {w : World} {A : Around} {E : Value → Shared → Prop} {s : Shared} {κ : SortKind} {G : Value → Prop} {lt : Value → Value → Bool} {a b : Array Keyed}
def OkH (lt : Value → Value → Bool) (a b : Array Keyed) (n : Nat) (x : Option (Array Keyed)) (i j : Nat) (o : Array Keyed) : Prop := match x with
  | some r => Rm lt a b r
  | none => MJ lt a.toList b.toList o.toList i j ∧ 1 ≤ i ∧ 2 ≤ j ∧ i ≤ a.size ∧ j ≤ b.size ∧ i + j + n ≤ a.size + b.size
theorem ext_take (x : Array Keyed) (i : Nat) : (x.extract 0 i).toList = x.toList.take i := by
  rw [Array.toList_extract]
  show (x.toList.drop 0).take (i - 0) = _
  simp
theorem ext_rev (x : Array Keyed) (i j : Nat) : ((x.extract i j).reverse).toList = ((x.toList.drop i).take (j - i)).reverse := by
  rw [Array.toList_reverse, Array.toList_extract]
theorem fhR {o : Array Keyed} {i j : Nat} (m : MJ lt a.toList b.toList o.toList i j) (sb : b.toList.Pairwise (le lt)) (hi : i = 0) : Rm lt a b (fiH a b o i j) := by
  have := m.fin sb hi
  subst hi
  unfold Rm fiH
  have e : (a.extract 0 0 ++ b.extract 0 j ++ o.reverse).toList = b.toList.take j ++ o.toList.reverse := by
    rw [Array.toList_append, Array.toList_append, ext_take, ext_take, Array.toList_reverse]
    rfl
  rw [e]
  exact this
theorem lhR {o : Array Keyed} {i j : Nat} (H : Mh G lt a b) (C : Cmp prog w A s κ G lt) (m : MJ lt a.toList b.toList o.toList i j) (hj : j = 1) : Rm lt a b (laH a b o i j) := by
  have hb := H.hb
  have e1 : b.toList.take 1 = [b[0]] := by
    rw [show (1 : Nat) = 0 + 1 from rfl, List.take_succ_eq_append_getElem (by simp; lia)]
    simp
  subst hj
  have := m.last H.sa H.sb (fun q hq p hp => by
    rw [e1] at hq
    rw [List.mem_singleton.mp hq]
    exact C.asy _ _ (H.first p (List.mem_of_mem_take hp)))
  unfold Rm laH
  have e : (b.extract 0 1 ++ a.extract 0 i ++ o.reverse).toList = b.toList.take 1 ++ a.toList.take i ++ o.toList.reverse := by
    rw [Array.toList_append, Array.toList_append, ext_take, ext_take, Array.toList_reverse]
  rw [e]
  exact this
theorem le_upto (C : Cmp prog w A s κ G lt) {l : List Keyed} (sl : l.Pairwise (le lt)) {i : Nat} (hi : i < l.length) {x : Keyed} (h : le lt l[i] x) : ∀ q ∈ l.take (i + 1), le lt q x := by
  intro q hq
  rw [List.take_succ_eq_append_getElem hi] at hq
  rcases List.mem_append.mp hq with hq | hq
  · exact le_tra C (le_take sl hi q hq) h
  · rw [List.mem_singleton.mp hq]; exact h
theorem MJ.stepA (H : Mh G lt a b) {o : Array Keyed} {i j : Nat} (m : MJ lt a.toList b.toList o.toList i j) (h1 : 1 ≤ i) (h2 : i ≤ a.size) (hq : ∀ q ∈ b.toList.take j, le lt q (a[i - 1]'(by lia))) :
    MJ lt a.toList b.toList (o.push (a[i - 1]'(by lia))).toList (i - 1) j := by
  obtain ⟨i, rfl⟩ : ∃ i', i = i' + 1 := ⟨i - 1, by lia⟩
  have := m.step H.sa (by simp; lia) (by simpa using hq)
  simpa using this
theorem MJ.stepB (H : Mh G lt a b) {o : Array Keyed} {i j : Nat} (m : MJ lt a.toList b.toList o.toList i j) (h1 : 1 ≤ j) (h2 : j ≤ b.size) (hq : ∀ q ∈ a.toList.take i, le lt q (b[j - 1]'(by lia))) :
    MJ lt a.toList b.toList (o.push (b[j - 1]'(by lia))).toList i (j - 1) := by
  obtain ⟨j, rfl⟩ : ∃ j', j = j' + 1 := ⟨j - 1, by lia⟩
  have := m.swap.step H.sb (by simp; lia) (by simpa using hq)
  simpa using this.swap
theorem le_up1 (C : Cmp prog w A s κ G lt) {l : Array Keyed} (sl : l.toList.Pairwise (le lt)) {i : Nat} (h1 : 1 ≤ i) (hi : i ≤ l.size) {x : Keyed} (h : le lt (l[i - 1]'(by lia)) x) : ∀ q ∈ l.toList.take i, le lt q x := by
  obtain ⟨i, rfl⟩ : ∃ i', i = i' + 1 := ⟨i - 1, by lia⟩
  exact le_upto C sl (by simp; lia) (by simpa using h)
theorem wpS_hiI (C : Cmp prog w A s κ G lt) (H : Mh G lt a b) {st : SortSt} {g n c d : Nat} {o : Array Keyed} {i j : Nat} (hk : kindOf st = κ) (h : OkH lt a b n none i j o) :
    wpS (model prog w) A E s (hiI a b g (none, i, j, o, c, d)) (fun r st' => st' = st ∧ match r with
      | .done u => OkH lt a b (n + 1) u.1 u.2.1 u.2.2.1 u.2.2.2.1
      | .yield u => u.1 = none ∧ OkH lt a b (n + 1) none u.2.1 u.2.2.1 u.2.2.2.1) st := by
  obtain ⟨m, h1, h2, h3, h4, h5⟩ := h
  unfold hiI
  dsimp only
  refine wpS_bind (wpS_elem (by lia) (wpS_bind (wpS_elem (by lia) (wpS_bind (wpS_far (C := C) hk (H.gb _ (by simp)) (H.ga _ (by simp)) ?_)))))
  dsimp only
  cases e : lt (b[j - 1]).1 (a[i - 1]).1
  · simp only [Bool.false_eq_true, if_false]
    refine wpS_bind (wpS_elem (by lia) ?_)
    have m2 := m.stepB H (by lia) h4 (le_up1 C H.sa h1 h3 e)
    split
    · rename_i e2
      exact wpS_pure ⟨rfl, lhR H C m2 (by simpa using e2)⟩
    · rename_i e2
      have e2' : j - 1 ≠ 1 := by simpa using e2
      split
      · exact wpS_pure ⟨rfl, m2, h1, by first | lia | (dsimp only; lia), h3, by first | lia | (dsimp only; lia), by first | lia | (dsimp only; lia)⟩
      · exact wpS_pure ⟨rfl, rfl, m2, h1, by first | lia | (dsimp only; lia), h3, by first | lia | (dsimp only; lia), by first | lia | (dsimp only; lia)⟩
  · simp only [if_true]
    refine wpS_bind (wpS_elem (by lia) ?_)
    have m2 := m.stepA H h1 h3 (le_up1 C H.sb (by lia) h4 (C.asy _ _ e))
    split
    · rename_i e2
      exact wpS_pure ⟨rfl, fhR m2 H.sb (by simpa using e2)⟩
    · rename_i e2
      have e2' : i - 1 ≠ 0 := by simpa using e2
      split
      · exact wpS_pure ⟨rfl, m2, by first | lia | (dsimp only; lia), h2, by first | lia | (dsimp only; lia), h4, by first | lia | (dsimp only; lia)⟩
      · exact wpS_pure ⟨rfl, rfl, m2, by first | lia | (dsimp only; lia), h2, by first | lia | (dsimp only; lia), h4, by first | lia | (dsimp only; lia)⟩
abbrev QH (lt : Value → Value → Bool) (a b : Array Keyed) (n : Nat) (st : SortSt) : ForInStep TJG → SortSt → Prop := fun r st' => Eg st st' ∧ match r with
      | .done u => OkH lt a b n u.1 u.2.1 u.2.2.1 u.2.2.2.1
      | .yield u => u.1 = none ∧ OkH lt a b n none u.2.1 u.2.2.1 u.2.2.2.1
theorem wpS_hiD (C : Cmp prog w A s κ G lt) (H : Mh G lt a b) {st : SortSt} {n g c d : Nat} {o : Array Keyed} {i j : Nat} (m : MJ lt a.toList b.toList o.toList i j) (h1 : 1 ≤ i) (h2 : 2 ≤ j) (h3 : i ≤ a.size) (h4 : j ≤ b.size) (h5 : i + j + n ≤ a.size + b.size)
    (hq : ∀ q ∈ b.toList.take j, le lt q (a[i - 1]'(by lia))) : wpS (model prog w) A E s (hiD a b i j o g c d) (QH lt a b n st) st := by
  unfold hiD
  refine wpS_bind (wpS_elem (by lia) ?_)
  have m2 := m.stepA H h1 h3 hq
  split
  · rename_i e2
    exact wpS_pure ⟨Eg.rfl' _, fhR m2 H.sb (by simpa using e2)⟩
  · rename_i e2
    have e2' : i - 1 ≠ 0 := by simpa using e2
    split
    · exact wpS_pure ⟨Eg.rfl' _, m2, by first | lia | (dsimp only; lia), h2, by first | lia | (dsimp only; lia), h4, by first | lia | (dsimp only; lia)⟩
    · exact wpS_pure ⟨Eg.rfl' _, rfl, m2, by first | lia | (dsimp only; lia), h2, by first | lia | (dsimp only; lia), h4, by first | lia | (dsimp only; lia)⟩
theorem MJ.stepsA (H : Mh G lt a b) {o : Array Keyed} {i j z : Nat} (m : MJ lt a.toList b.toList o.toList i j) (hz : z ≤ i) (h3 : i ≤ a.size) (hq : ∀ x, (h1 : z ≤ x) → (h2 : x < i) → ∀ q ∈ b.toList.take j, le lt q (a[x]'(by lia))) :
    MJ lt a.toList b.toList (o ++ (a.extract z i).reverse).toList z j := by
  have := m.steps H.sa (by simpa using h3) (i - z) (by lia) (fun x x1 x2 => by simpa using hq x (by lia) x2)
  rw [show i - (i - z) = z by lia] at this
  rw [Array.toList_append, ext_rev]
  exact this
theorem MJ.stepsB (H : Mh G lt a b) {o : Array Keyed} {i j z : Nat} (m : MJ lt a.toList b.toList o.toList i j) (hz : z ≤ j) (h3 : j ≤ b.size) (hq : ∀ x, (h1 : z ≤ x) → (h2 : x < j) → ∀ q ∈ a.toList.take i, le lt q (b[x]'(by lia))) :
    MJ lt a.toList b.toList (o ++ (b.extract z j).reverse).toList i z := by
  have := m.swap.steps H.sb (by simpa using h3) (j - z) (by lia) (fun x x1 x2 => by simpa using hq x (by lia) x2)
  rw [show j - (j - z) = z by lia] at this
  rw [Array.toList_append, ext_rev]
  exact this.swap
theorem wpS_hiC (C : Cmp prog w A s κ G lt) (H : Mh G lt a b) {st : SortSt} {n g c d : Nat} {o : Array Keyed} {i j : Nat} (hk : kindOf st = κ) (m : MJ lt a.toList b.toList o.toList i j) (h1 : 1 ≤ i) (h2 : 2 ≤ j) (h3 : i ≤ a.size) (h4 : j ≤ b.size) (h5 : i + j + n ≤ a.size + b.size)
    (hq : ∀ q ∈ a.toList.take i, le lt q (b[j - 1]'(by lia))) : wpS (model prog w) A E s (hiC a b i j o g c d) (QH lt a b n st) st := by
  unfold hiC
  refine wpS_bind (wpS_elem (by lia) ?_)
  have m2 := m.stepB H (by lia) h4 hq
  split
  · rename_i e2
    exact wpS_pure ⟨Eg.rfl' _, lhR H C m2 (by simpa using e2)⟩
  · rename_i e2
    have e2' : j - 1 ≠ 1 := by simpa using e2
    refine wpS_bind (wpS_elem (by lia) (wpS_bind (wpS_gal C hk (H.ga _ (by simp)) H.gb (by lia) (by lia) (fun x y hxy hy k1 => ?_) fun z hz k1 k2 => ?_)))
    · simp only [far1, if_true] at k1 ⊢
      have hle : le lt (b[0 + x]'(by lia)) (b[0 + y]'(by lia)) := le_at C (fun x => C.irr _) H.sb (i := 0 + x) (j := 0 + y) (by lia) (by simp; lia)
      cases e3 : lt (b[0 + x]'(by lia)).1 (a[i - 1]).1
      · have := C.tra _ _ _ e3 hle
        rw [this] at k1; cases k1
      · rfl
    · dsimp only
      have k1' : ∀ x, (hx : x < z) → lt (b[x]'(by lia)).1 (a[i - 1]).1 = true := fun x hx => by
        have := k1 x hx (by lia); simpa [far1] using this
      have k2' : ∀ x, (hx : z ≤ x) → (hx2 : x < j - 1) → lt (b[x]'(by lia)).1 (a[i - 1]).1 = false := fun x hx hx2 => by
        have := k2 x hx hx2; simpa [far1] using this
      have hz0 : 1 ≤ z := by
        rcases Nat.lt_or_ge 0 z with h | h
        · exact h
        · have := k2' 0 (by lia) (by lia)
          rw [H.first _ (by simp)] at this
          cases this
      have k3 : ∀ q ∈ b.toList.take z, le lt q (a[i - 1]) := by
        intro q hq'
        obtain ⟨y, hy, rfl⟩ := List.mem_iff_getElem.mp hq'
        simp only [List.length_take, Array.length_toList] at hy
        have := C.asy _ _ (k1' y (by lia))
        simpa [le] using this
      split
      · have m3 := m2.stepsB H (z := z) (by lia) (by lia) (fun x x1 x2 => le_up1 C H.sa h1 h3 (k2' x x1 x2))
        split
        · rename_i e5
          exact wpS_pure ⟨Eg.rfl' _, lhR H C m3 (by simpa using e5)⟩
        · rename_i e5
          have e5' : z ≠ 1 := by simpa using e5
          split
          · rename_i e6
            have e6' : z = 0 := by simpa using e6
            lia
          · exact wpS_hiD C H m3 h1 (by lia) h3 (by lia) (by lia) k3
      · have : z = j - 1 := by lia
        subst this
        exact wpS_hiD C H m2 h1 (by lia) h3 (by lia) (by lia) k3
theorem wpS_hiB (C : Cmp prog w A s κ G lt) (H : Mh G lt a b) {st : SortSt} {n g c d : Nat} {o : Array Keyed} {i j : Nat} (hk : kindOf st = κ) (h : OkH lt a b n none i j o) :
    wpS (model prog w) A E s (hiB a b i j o g c d) (QH lt a b n st) st := by
  obtain ⟨m, h1, h2, h3, h4, h5⟩ := h
  unfold hiB
  refine wpS_bind (wpS_setG fun st' eg => ?_)
  have hk' : kindOf st' = κ := eg.1.trans hk
  have up : ∀ r st'', QH lt a b n st' r st'' → QH lt a b n st r st'' := fun r st'' q => ⟨eg.trans q.1, q.2⟩
  refine wpS_bind (wpS_elem (by lia) (wpS_bind (wpS_gal C hk' (H.gb _ (by simp)) H.ga (by lia) (by lia) (fun x y hxy hy k1 => ?_) fun z hz k1 k2 => ?_)))
  · simp only [far1, Bool.false_eq_true, if_false, Bool.not_eq_true'] at k1 ⊢
    have hle := le_at C (fun x => C.irr _) H.sa (i := 0 + x) (j := 0 + y) (by lia) (by simp; lia)
    exact C.tra _ _ _ (by simpa [le] using hle) k1
  · dsimp only
    have k1' : ∀ x, (hx : x < z) → lt (b[j - 1]).1 (a[x]'(by lia)).1 = false := fun x hx => by
      have := k1 x hx (by lia); simpa [far1] using this
    have k2' : ∀ x, (hx : z ≤ x) → (hx2 : x < i) → lt (b[j - 1]).1 (a[x]'(by lia)).1 = true := fun x hx hx2 => by
      have := k2 x hx hx2; simpa [far1] using this
    have k3 : ∀ q ∈ a.toList.take z, le lt q (b[j - 1]) := by
      intro q hq'
      obtain ⟨y, hy, rfl⟩ := List.mem_iff_getElem.mp hq'
      simp only [List.length_take, Array.length_toList] at hy
      have := k1' y (by lia)
      simpa [le] using this
    split
    · have m3 := m.stepsA H (z := z) (by lia) h3 (fun x x1 x2 => le_up1 C H.sb (by lia) h4 (C.asy _ _ (k2' x x1 x2)))
      split
      · rename_i e5
        exact wpS_pure (up _ _ ⟨Eg.rfl' _, fhR m3 H.sb (by simpa using e5)⟩)
      · rename_i e5
        have e5' : z ≠ 0 := by simpa using e5
        exact wpS_mono (wpS_hiC C H hk' m3 (by lia) h2 (by lia) h4 (by lia) k3) up
    · have : z = i := by lia
      subst this
      exact wpS_mono (wpS_hiC C H hk' m h1 h2 h3 h4 h5 k3) up
theorem wpS_hiO (C : Cmp prog w A s κ G lt) (H : Mh G lt a b) {st : SortSt} {n : Nat} {t : TJO} (ht : t.1 = none) (hk : kindOf st = κ) (h : OkH lt a b n none t.2.1 t.2.2.1 t.2.2.2.1) :
    wpS (model prog w) A E s (hiO a b t) (fun r st' => Eg st st' ∧ match r with
      | .done u => (∃ x, u.1 = some x) ∧ OkH lt a b (n + 1) u.1 u.2.1 u.2.2.1 u.2.2.2.1
      | .yield u => u.1 = none ∧ OkH lt a b (n + 1) none u.2.1 u.2.2.1 u.2.2.2.1) st := by
  unfold hiO
  refine wpS_bind (wpS_mono (wpS_forRange (I := fun x u st' => st' = st ∧ u.1 = none ∧ OkH lt a b (n + x) none u.2.1 u.2.2.1 u.2.2.2.1)
    (Q := fun u st' => st' = st ∧ OkH lt a b (n + 1) u.1 u.2.1 u.2.2.1 u.2.2.2.1) ?_ ?_ ⟨rfl, rfl, h⟩) ?_)
  · rintro x ⟨u1, i, j, o, c, d⟩ st' _ hx ⟨rfl, rfl, h'⟩
    refine wpS_mono (wpS_hiI C H hk h') ?_
    rintro r st'' ⟨rfl, hr⟩
    cases r with
    | done u =>
      refine ⟨rfl, ?_⟩
      dsimp only at hr ⊢
      unfold OkH at hr ⊢
      split at hr
      · exact hr
      · exact ⟨hr.1, hr.2.1, hr.2.2.1, hr.2.2.2.1, hr.2.2.2.2.1, by lia⟩
    | yield u => exact ⟨rfl, hr.1, hr.2.1, hr.2.2.1, hr.2.2.2.1, hr.2.2.2.2.1, hr.2.2.2.2.2.1, by have := hr.2.2.2.2.2.2; lia⟩
  · rintro u st' ⟨rfl, hu, m, h1, h2, h3, h4, h5⟩
    rw [hu]
    exact ⟨rfl, m, h1, h2, h3, h4, by lia⟩
  · rintro ⟨u1, i, j, o, c, d⟩ st' ⟨rfl, hu⟩
    cases u1 with
    | some r => exact wpS_pure ⟨Eg.rfl' _, ⟨r, rfl⟩, hu⟩
    | none =>
      dsimp only at hu ⊢
      refine wpS_bind (wpS_lift (wpAny_rule ⟨rfl, ?_⟩))
      refine wpS_bind (wpS_mono (wpS_forRange (I := fun x v st'' => Eg st' st'' ∧ v.1 = none ∧ OkH lt a b (n + 1) none v.2.1 v.2.2.1 v.2.2.2.1)
        (Q := fun v st'' => Eg st' st'' ∧ OkH lt a b (n + 1) v.1 v.2.1 v.2.2.1 v.2.2.2.1) ?_ ?_ ⟨Eg.rfl' _, rfl, hu⟩) ?_)
      · rintro x ⟨v1, i, j, o, g, c, d⟩ st'' _ hx ⟨eg, rfl, h'⟩
        unfold hiG
        dsimp only at h' ⊢
        have key : ∀ g', wpS (model prog w) A E s (hiB a b i j o g' c d) (fun r st3 => match r with
            | .done v => Eg st' st3 ∧ OkH lt a b (n + 1) v.1 v.2.1 v.2.2.1 v.2.2.2.1
            | .yield v => Eg st' st3 ∧ v.1 = none ∧ OkH lt a b (n + 1) none v.2.1 v.2.2.1 v.2.2.2.1) st'' := by
          intro g'
          refine wpS_mono (wpS_hiB C H (eg.1.trans hk) h') ?_
          rintro r st3 ⟨eg3, hr⟩
          cases r with
          | done v => exact ⟨eg.trans eg3, hr⟩
          | yield v => exact ⟨eg.trans eg3, hr⟩
        split
        · exact wpS_mono (key _) fun r st3 hr => by cases r <;> exact hr
        · exact wpS_mono (key _) fun r st3 hr => by cases r <;> exact hr
      · rintro v st'' ⟨eg, hv, h'⟩
        rw [hv]
        exact ⟨eg, h'⟩
      · rintro ⟨v1, i, j, o, g, c, d⟩ st'' ⟨eg, hv⟩
        cases v1 with
        | some r => exact wpS_pure ⟨eg, ⟨r, rfl⟩, hv⟩
        | none =>
          dsimp only at hv ⊢
          exact wpS_bind (wpS_setG fun st3 eg3 => wpS_pure ⟨eg.trans eg3, rfl, hv⟩)
theorem wpS_mHi (C : Cmp prog w A s κ G lt) (H : Mh G lt a b) {st : SortSt} {Q : Array Keyed → SortSt → Prop} (hk : kindOf st = κ) (h : ∀ r st', Eg st st' → Rm lt a b r → Q r st') :
    wpS (model prog w) A E s (mHi' a b) Q st := by
  rw [mHi'_eq]
  refine wpS_bind (wpS_lift (wpAny_rule ⟨rfl, ?_⟩))
  have hb := H.hb
  have ha := H.ha
  refine wpS_bind (wpS_elem (by lia) ?_)
  have m : MJ lt a.toList b.toList (#[a[a.size - 1]] : Array Keyed).toList (a.size - 1) b.size := by
    refine ⟨?_, ?_, ?_, ?_⟩
    · rw [List.drop_eq_getElem_cons (by simp; lia), List.drop_of_length_le (by simp; lia), List.drop_of_length_le (by simp)]
      simp
    · simp
    · intro p hp q hq
      have : p = a[a.size - 1] := by simpa using hp
      subst this
      have := le_take H.sa (ia := a.size - 1) (by simp; lia) q hq
      simpa using this
    · intro p hp q hq
      have : p = a[a.size - 1] := by simpa using hp
      subst this
      exact C.asy _ _ (H.last q (List.mem_of_mem_take hq))
  split
  · rename_i e
    exact wpS_pure (h _ _ (Eg.rfl' _) (fhR m H.sb (by simpa using e)))
  · rename_i e
    have e' : a.size - 1 ≠ 0 := by simpa using e
    split
    · rename_i e2
      exact wpS_pure (h _ _ (Eg.rfl' _) (lhR H C m (by simpa using e2)))
    · rename_i e2
      have e2' : b.size ≠ 1 := by simpa using e2
      refine wpS_bind (wpS_get ?_)
      refine wpS_bind (wpS_mono (wpS_forRange (I := fun x u st' => Eg st st' ∧ u.1 = none ∧ OkH lt a b x none u.2.1 u.2.2.1 u.2.2.2.1)
        (Q := fun u st' => Eg st st' ∧ ∃ r, u.1 = some r ∧ Rm lt a b r) ?_ ?_ ⟨Eg.rfl' _, rfl, m, by first | lia | (dsimp only; lia), by first | lia | (dsimp only; lia), by first | lia | (dsimp only; lia), by first | lia | (dsimp only; lia), by first | lia | (dsimp only; lia)⟩) ?_)
      · rintro x t st' _ hx ⟨eg, ht, h'⟩
        refine wpS_mono (wpS_hiO C H ht (eg.1.trans hk) h') ?_
        rintro r st'' ⟨eg2, hr⟩
        cases r with
        | done u =>
          obtain ⟨⟨r, hr1⟩, hr2⟩ := hr
          rw [hr1] at hr2
          exact ⟨eg.trans eg2, r, hr1, hr2⟩
        | yield u => exact ⟨eg.trans eg2, hr.1, hr.2⟩
      · rintro u st' ⟨eg, hu, _, h1, h2, h3, h4, h5⟩
        lia
      · rintro ⟨u1, u2⟩ st' ⟨eg, r, hr, hR⟩
        cases hr
        exact wpS_pure (h _ _ eg hR)
end
end Srt
set_option maxRecDepth 100000
set_option maxHeartbeats 4000000
namespace Srt
open PySem PyProof.Rows
def Kz (xs : Array Keyed) (i : Nat) : Value := kz xs[i]?
theorem Kz_congr {xs ys : Array Keyed} {i j : Nat} (h : xs[i]? = ys[j]?) : Kz xs i = Kz ys j := by unfold Kz; rw [h]
theorem Kz_at {xs : Array Keyed} {i : Nat} (h : i < xs.size) : Kz xs i = xs[i].1 := by unfold Kz; rw [getElem?_pos xs i h]; rfl
def Asc (lt : Value → Value → Bool) (xs : Array Keyed) (lo hi : Nat) : Prop := ∀ i j, lo ≤ i → i ≤ j → j < hi → lt (Kz xs j) (Kz xs i) = false
def Des (lt : Value → Value → Bool) (xs : Array Keyed) (lo hi : Nat) : Prop := ∀ i j, lo ≤ i → i ≤ j → j < hi → lt (Kz xs i) (Kz xs j) = false
def Eqv (lt : Value → Value → Bool) (x y : Value) : Prop := lt x y = false ∧ lt y x = false
structure Tr (lo hi : Nat) (st st' : SortSt) : Prop where
  kind : kindOf st' = kindOf st
  pend : pendingOf st' = pendingOf st
  fail : failedOf st' = failedOf st
  perm : (arrOf st').Perm (arrOf st)
  out : ∀ k, (k < lo ∨ hi ≤ k) → (arrOf st')[k]? = (arrOf st)[k]?
theorem Tr.rfl' (lo hi : Nat) (st : SortSt) : Tr lo hi st st := ⟨rfl, rfl, rfl, .refl _, fun _ _ => rfl⟩
theorem Tr.trans {lo hi : Nat} {a b c : SortSt} (h : Tr lo hi a b) (k : Tr lo hi b c) : Tr lo hi a c := ⟨k.kind.trans h.kind, k.pend.trans h.pend, k.fail.trans h.fail, k.perm.trans h.perm, fun i hi => (k.out i hi).trans (h.out i hi)⟩
theorem Tr.size {lo hi : Nat} {a b : SortSt} (h : Tr lo hi a b) : (arrOf b).size = (arrOf a).size := h.perm.size_eq
def Gs (G : Value → Prop) (st : SortSt) : Prop := ∀ p ∈ (arrOf st).toList, G p.1
theorem Tr.gs {G : Value → Prop} {lo hi : Nat} {a b : SortSt} (h : Tr lo hi a b) (g : Gs G a) : Gs G b := fun p hp => g p ((Array.perm_iff_toList_perm.mp h.perm).mem_iff.mp hp)
theorem Tr.mir {lo hi i j : Nat} {st : SortSt} (h1 : lo ≤ i) (h2 : j ≤ hi) (h3 : j ≤ (arrOf st).size) : Tr lo hi st (setArr st (mirror (arrOf st) i j ((j - i) / 2))) :=
  ⟨rfl, rfl, rfl, mirror_perm _ _ _ _, fun k hk => by show (mirror (arrOf st) i j ((j - i) / 2))[k]? = _; rw [getElem?_mirror_all h3, if_neg (by lia)]⟩
theorem Kz_mir {xs : Array Keyed} {i j : Nat} (hj : j ≤ xs.size) (k : Nat) : Kz (mirror xs i j ((j - i) / 2)) k = if i ≤ k ∧ k < j then Kz xs (i + j - 1 - k) else Kz xs k := by
  have e := getElem?_mirror_all (i := i) hj k
  split
  · rename_i h; rw [if_pos h] at e; exact Kz_congr e
  · rename_i h; rw [if_neg h] at e; exact Kz_congr e
abbrev ASt := Option (Option Nat) × Nat
abbrev DSt := Option (Option Nat) × Nat × Nat
def asL (lo b nr : Nat) : StateT SortSt Sem ASt :=
  forIn [b:nr] ((none, b) : ASt) fun _ t => do
    match ← ltAt' (lo + t.2) (lo + t.2 - 1) with
    | some sm => if sm = true then pure (.done (none, t.2)) else pure (.yield (none, t.2 + 1))
    | _ => pure (.done (some none, t.2))
def ta3 (lo n nr : Nat) : StateT SortSt Sem (Option Nat) := do
  reverseSlice' lo (lo + n)
  let t ← asL lo n nr
  match t.1 with
  | some r => pure r
  | none => pure (some t.2)
def deL (lo n nr : Nat) : StateT SortSt Sem DSt :=
  forIn [n:nr] ((none, n, 0) : DSt) fun _ t => do
    match ← ltAt' (lo + t.2.1) (lo + t.2.1 - 1) with
    | some sm =>
      if sm = true then
        if t.2.2 > 0 then do
          reverseSlice' (lo + t.2.1 - (t.2.2 + 1)) (lo + t.2.1)
          pure (.yield (none, t.2.1 + 1, 0))
        else pure (.yield (none, t.2.1 + 1, 0))
      else do
        match ← ltAt' (lo + t.2.1 - 1) (lo + t.2.1) with
        | some la => if la = true then pure (.done (none, t.2.1, t.2.2)) else pure (.yield (none, t.2.1 + 1, t.2.2 + 1))
        | _ => pure (.done (some none, t.2.1, t.2.2))
    | _ => pure (.done (some none, t.2.1, t.2.2))
def deP (lo n nr : Nat) : StateT SortSt Sem (Option Nat) := do
  rule "list.sort.descending-run"
  let t ← deL lo (n + 1) nr
  match t.1 with
  | some r => pure r
  | none =>
    if t.2.2 > 0 then do
      reverseSlice' (lo + t.2.1 - (t.2.2 + 1)) (lo + t.2.1)
      ta3 lo t.2.1 nr
    else ta3 lo t.2.1 nr
theorem cnt_eq (lo nr : Nat) : countRun' lo nr = (do
    let t ← asL lo 1 nr
    match t.1 with
    | some r => pure r
    | none =>
      if (t.2 == nr) = true then pure (some t.2)
      else if t.2 > 1 then do
        match ← ltAt' lo (lo + t.2 - 1) with
        | some ro => if ro = true then pure (some t.2) else do
            reverseSlice' lo (lo + t.2)
            deP lo t.2 nr
        | _ => pure none
      else deP lo t.2 nr) := by
  rw [countRun'_eq]
  dsimp only
  refine bc2 rfl fun t => ?_
  obtain ⟨r, n⟩ := t
  cases r with
  | some r => rfl
  | none =>
    dsimp only
    refine ite_congr rfl (fun _ => rfl) fun _ => ite_congr rfl (fun _ => bc fun x => ?_) fun _ => ?_
    · cases x with
      | none => rfl
      | some ro =>
        dsimp only
        refine ite_congr rfl (fun _ => rfl) fun _ => bc fun _ => ?_
        unfold deP
        refine bc fun _ => bc2 rfl fun t => ?_
        obtain ⟨r2, n2, q2⟩ := t
        cases r2 with
        | some r2 => rfl
        | none =>
          dsimp only
          refine ite_congr rfl (fun _ => bc fun _ => ?_) fun _ => ?_
          · unfold ta3
            refine bc fun _ => bc2 rfl fun t => ?_
            obtain ⟨r3, n3⟩ := t
            cases r3 <;> rfl
          · unfold ta3
            refine bc fun _ => bc2 rfl fun t => ?_
            obtain ⟨r3, n3⟩ := t
            cases r3 <;> rfl
    · unfold deP
      refine bc fun _ => bc2 rfl fun t => ?_
      obtain ⟨r2, n2, q2⟩ := t
      cases r2 with
      | some r2 => rfl
      | none =>
        dsimp only
        refine ite_congr rfl (fun _ => bc fun _ => ?_) fun _ => ?_
        · unfold ta3
          refine bc fun _ => bc2 rfl fun t => ?_
          obtain ⟨r3, n3⟩ := t
          cases r3 <;> rfl
        · unfold ta3
          refine bc fun _ => bc2 rfl fun t => ?_
          obtain ⟨r3, n3⟩ := t
          cases r3 <;> rfl
section
variable {prog : Program} {w : World} {A : Around} {E : Value → Shared → Prop} {s : Shared} {κ : SortKind} {G : Value → Prop} {lt : Value → Value → Bool}
theorem Eqv.symm {x y : Value} (h : Eqv lt x y) : Eqv lt y x := ⟨h.2, h.1⟩
theorem Eqv.trans (C : Cmp prog w A s κ G lt) {x y z : Value} (h : Eqv lt x y) (k : Eqv lt y z) : Eqv lt x z := ⟨C.tra z y x k.1 h.1, C.tra x y z h.2 k.2⟩
theorem eqv_le (C : Cmp prog w A s κ G lt) {x x' y y' : Value} (hx : Eqv lt x x') (hy : Eqv lt y y') (h : lt y' x' = false) : lt y x = false :=
  C.tra x x' y hx.2 (C.tra x' y' y h hy.1)
theorem wpS_ltK {st : SortSt} (C : Cmp prog w A s κ G lt) {i j : Nat} {Q : Option Bool → SortSt → Prop} (hk : kindOf st = κ) (g : Gs G st) (hi : i < (arrOf st).size) (hj : j < (arrOf st).size)
    (h : Q (some (lt (Kz (arrOf st) i) (Kz (arrOf st) j))) st) : wpS (model prog w) A E s (ltAt' i j) Q st := by
  rw [ltAt'_eq]
  refine wpS_bind (wpS_get ?_)
  show wpS _ _ _ _ (do let x ← elem' (arrOf st) i; let y ← elem' (arrOf st) j; lt' x y) Q st
  rw [Kz_at hi, Kz_at hj] at h
  exact wpS_bind (wpS_elem hi (wpS_bind (wpS_elem hj (wpS_far (C := C) hk (g _ (by simp)) (g _ (by simp)) h))))
theorem wpS_rev {st : SortSt} {i j : Nat} {Q : Unit → SortSt → Prop} (h : Q () (setArr st (mirror (arrOf st) i j ((j - i) / 2)))) : wpS (model prog w) A E s (reverseSlice' i j) Q st := by
  rw [reverseSlice'_eq]; exact wpS_modify h
theorem asc_more (C : Cmp prog w A s κ G lt) {xs : Array Keyed} {lo x : Nat} (h : Asc lt xs lo (lo + x)) (h1 : 1 ≤ x) (hl : lt (Kz xs (lo + x)) (Kz xs (lo + x - 1)) = false) : Asc lt xs lo (lo + (x + 1)) := by
  intro i j h2 h3 h4
  by_cases hj : j < lo + x
  · exact h i j h2 h3 hj
  · have : j = lo + x := by lia
    subst this
    by_cases hi : i = lo + x
    · subst hi; exact C.irr _
    · exact C.tra _ _ _ (h i (lo + x - 1) h2 (by lia) (by lia)) hl
theorem des_more (C : Cmp prog w A s κ G lt) {xs : Array Keyed} {lo x : Nat} (h : Des lt xs lo (lo + x)) (h1 : 1 ≤ x) (hl : lt (Kz xs (lo + x - 1)) (Kz xs (lo + x)) = false) : Des lt xs lo (lo + (x + 1)) := by
  intro i j h2 h3 h4
  by_cases hj : j < lo + x
  · exact h i j h2 h3 hj
  · have : j = lo + x := by lia
    subst this
    by_cases hi : i = lo + x
    · subst hi; exact C.irr _
    · exact C.tra _ _ _ hl (h i (lo + x - 1) h2 (by lia) (by lia))
theorem wpS_asL (C : Cmp prog w A s κ G lt) {st : SortSt} {lo b nr : Nat} {Q : ASt → SortSt → Prop} (hk : kindOf st = κ) (g : Gs G st) (hz : lo + nr ≤ (arrOf st).size) (h1 : 1 ≤ b) (h2 : b ≤ nr) (hs : Asc lt (arrOf st) lo (lo + b))
    (h : ∀ n, b ≤ n → n ≤ nr → Asc lt (arrOf st) lo (lo + n) → (n = nr ∨ lt (Kz (arrOf st) (lo + n)) (Kz (arrOf st) (lo + n - 1)) = true) → Q (none, n) st) : wpS (model prog w) A E s (asL lo b nr) Q st := by
  unfold asL
  refine wpS_forRange (I := fun x c st' => st' = st ∧ c = (none, x) ∧ Asc lt (arrOf st) lo (lo + x)) ?_ ?_ ⟨rfl, rfl, hs⟩
  · rintro x c st' hx1 hx2 ⟨rfl, rfl, hs'⟩
    dsimp only
    refine wpS_bind (wpS_ltK C hk g (by lia) (by lia) ?_)
    dsimp only
    cases e : lt (Kz (arrOf st') (lo + x)) (Kz (arrOf st') (lo + x - 1))
    · simp only [Bool.false_eq_true, if_false]
      exact wpS_pure ⟨rfl, rfl, asc_more C hs' (by lia) e⟩
    · simp only [if_true]
      exact wpS_pure (h x hx1 (by lia) hs' (.inr e))
  · rintro c st' ⟨rfl, rfl, hs'⟩
    rw [show max b nr = nr by lia] at hs' ⊢
    exact h nr h2 (Nat.le_refl _) hs' (.inl rfl)
theorem wpS_ta3 (C : Cmp prog w A s κ G lt) {st : SortSt} {lo n nr : Nat} {Q : Option Nat → SortSt → Prop} (hk : kindOf st = κ) (g : Gs G st) (hz : lo + nr ≤ (arrOf st).size) (h1 : 1 ≤ n) (h2 : n ≤ nr) (hs : Des lt (arrOf st) lo (lo + n))
    (h : ∀ m st', Tr lo (lo + nr) st st' → 1 ≤ m → m ≤ nr → Asc lt (arrOf st') lo (lo + m) → Q (some m) st') : wpS (model prog w) A E s (ta3 lo n nr) Q st := by
  unfold ta3
  have hz' : lo + n ≤ (arrOf st).size := by lia
  refine wpS_bind (wpS_rev ?_)
  have tr : Tr lo (lo + nr) st (setArr st (mirror (arrOf st) lo (lo + n) ((lo + n - lo) / 2))) := Tr.mir (Nat.le_refl _) (by lia) hz'
  refine wpS_bind (wpS_asL C (tr.kind.trans hk) (tr.gs g) (by rw [tr.size]; exact hz) h1 h2 ?_ fun m m1 m2 m3 _ => wpS_pure (h m _ tr (by lia) m2 m3))
  intro i j i1 i2 i3
  show lt (Kz (mirror (arrOf st) lo (lo + n) ((lo + n - lo) / 2)) j) (Kz (mirror (arrOf st) lo (lo + n) ((lo + n - lo) / 2)) i) = false
  rw [Kz_mir hz', Kz_mir hz', if_pos (by lia), if_pos (by lia)]
  exact hs _ _ (by lia) (by lia) (by lia)
theorem mir_eqv (C : Cmp prog w A s κ G lt) {xs : Array Keyed} {i j : Nat} (hj : j ≤ xs.size) (he : ∀ k, i ≤ k → k < j → Eqv lt (Kz xs k) (Kz xs (j - 1))) (k : Nat) : Eqv lt (Kz (mirror xs i j ((j - i) / 2)) k) (Kz xs k) := by
  rw [Kz_mir hj]
  split
  · exact Eqv.trans C (he _ (by lia) (by lia)) (he k (by lia) (by lia)).symm
  · exact ⟨C.irr _, C.irr _⟩
theorem wpS_deL (C : Cmp prog w A s κ G lt) {st : SortSt} {lo n nr : Nat} {Q : DSt → SortSt → Prop} (hk : kindOf st = κ) (g : Gs G st) (hz : lo + nr ≤ (arrOf st).size) (h1 : 1 ≤ n) (h2 : n ≤ nr) (hs : Des lt (arrOf st) lo (lo + n))
    (h : ∀ m q st', Tr lo (lo + nr) st st' → n ≤ m → m ≤ nr → Des lt (arrOf st') lo (lo + m) → q + 1 ≤ m → (∀ i, lo + m - (q + 1) ≤ i → i < lo + m → Eqv lt (Kz (arrOf st') i) (Kz (arrOf st') (lo + m - 1))) → Q (none, m, q) st') :
    wpS (model prog w) A E s (deL lo n nr) Q st := by
  unfold deL
  refine wpS_forRange (I := fun x c st' => ∃ q, c = (none, x, q) ∧ Tr lo (lo + nr) st st' ∧ Des lt (arrOf st') lo (lo + x) ∧ q + 1 ≤ x ∧
      (∀ i, lo + x - (q + 1) ≤ i → i < lo + x → Eqv lt (Kz (arrOf st') i) (Kz (arrOf st') (lo + x - 1)))) ?_ ?_
    ⟨0, rfl, Tr.rfl' _ _ _, hs, by lia, fun i i1 i2 => by rw [show i = lo + n - 1 by lia]; exact ⟨C.irr _, C.irr _⟩⟩
  · rintro x c st' hx1 hx2 ⟨q, rfl, tr, ds, hq, he⟩
    dsimp only
    have hz' : lo + x ≤ (arrOf st').size := by rw [tr.size]; lia
    have hk' := tr.kind.trans hk
    have g' := tr.gs g
    refine wpS_bind (wpS_ltK C hk' g' (by rw [tr.size]; lia) (by rw [tr.size]; lia) ?_)
    dsimp only
    cases e : lt (Kz (arrOf st') (lo + x)) (Kz (arrOf st') (lo + x - 1))
    · simp only [Bool.false_eq_true, if_false]
      refine wpS_bind (wpS_ltK C hk' g' (by rw [tr.size]; lia) (by rw [tr.size]; lia) ?_)
      dsimp only
      cases e2 : lt (Kz (arrOf st') (lo + x - 1)) (Kz (arrOf st') (lo + x))
      · simp only [Bool.false_eq_true, if_false]
        refine wpS_pure ⟨q + 1, rfl, tr, des_more C ds (by lia) e2, by lia, fun i i1 i2 => ?_⟩
        rw [show lo + (x + 1) - 1 = lo + x by lia]
        by_cases hi : i = lo + x
        · subst hi; exact ⟨C.irr _, C.irr _⟩
        · exact Eqv.trans C (he i (by lia) (by lia)) ⟨e2, e⟩
      · simp only [if_true]
        exact wpS_pure (h x q st' tr hx1 (by lia) ds hq he)
    · simp only [if_true]
      have step : ∀ st'', Tr lo (lo + nr) st st'' → (∀ k, Eqv lt (Kz (arrOf st'') k) (Kz (arrOf st') k)) → ∃ q', ((none, x + 1, 0) : DSt) = (none, x + 1, q') ∧ Tr lo (lo + nr) st st'' ∧ Des lt (arrOf st'') lo (lo + (x + 1)) ∧ q' + 1 ≤ x + 1 ∧
          (∀ i, lo + (x + 1) - (q' + 1) ≤ i → i < lo + (x + 1) → Eqv lt (Kz (arrOf st'') i) (Kz (arrOf st'') (lo + (x + 1) - 1))) := by
        intro st'' tr2 hev
        refine ⟨0, rfl, tr2, ?_, by lia, fun i i1 i2 => by rw [show i = lo + (x + 1) - 1 by lia]; exact ⟨C.irr _, C.irr _⟩⟩
        have dm := des_more C ds (by lia) (C.asy _ _ e)
        intro i j i1 i2 i3
        exact eqv_le C (hev j) (hev i) (dm i j i1 i2 i3)
      split
      · refine wpS_bind (wpS_rev (wpS_pure (step _ (tr.trans (Tr.mir (by lia) (by lia) hz')) (mir_eqv C hz' ?_))))
        exact he
      · exact wpS_pure (step _ tr fun k => ⟨C.irr _, C.irr _⟩)
  · rintro c st' ⟨q, rfl, tr, ds, hq, he⟩
    rw [show max n nr = nr by lia] at ds hq he ⊢
    exact h nr q st' tr h2 (Nat.le_refl _) ds hq he
theorem wpS_deP (C : Cmp prog w A s κ G lt) {st : SortSt} {lo n nr : Nat} {Q : Option Nat → SortSt → Prop} (hk : kindOf st = κ) (g : Gs G st) (hz : lo + nr ≤ (arrOf st).size) (h2 : n + 1 ≤ nr) (hs : Des lt (arrOf st) lo (lo + (n + 1)))
    (h : ∀ m st', Tr lo (lo + nr) st st' → 1 ≤ m → m ≤ nr → Asc lt (arrOf st') lo (lo + m) → Q (some m) st') : wpS (model prog w) A E s (deP lo n nr) Q st := by
  unfold deP
  refine wpS_bind (wpS_lift (wpAny_rule ⟨rfl, ?_⟩))
  refine wpS_bind (wpS_deL C hk g hz (by lia) h2 hs fun m q st' tr m1 m2 ds hq he => ?_)
  dsimp only
  have hz' : lo + m ≤ (arrOf st').size := by rw [tr.size]; lia
  split
  · have tr2 : Tr lo (lo + nr) st' (setArr st' (mirror (arrOf st') (lo + m - (q + 1)) (lo + m) ((lo + m - (lo + m - (q + 1))) / 2))) := Tr.mir (by lia) (by lia) hz'
    refine wpS_bind (wpS_rev (wpS_ta3 C (tr2.kind.trans (tr.kind.trans hk)) (tr2.gs (tr.gs g)) (by rw [tr2.size, tr.size]; exact hz) (by lia) m2 ?_ fun k st'' tr3 => h k st'' (tr.trans (tr2.trans tr3))))
    intro i j i1 i2 i3
    have ev := mir_eqv C hz' he
    exact eqv_le C (ev j) (ev i) (ds i j i1 i2 i3)
  · exact wpS_ta3 C (tr.kind.trans hk) (tr.gs g) (by rw [tr.size]; exact hz) (by lia) m2 ds fun k st'' tr3 => h k st'' (tr.trans tr3)
theorem wpS_cnt (C : Cmp prog w A s κ G lt) {st : SortSt} {lo nr : Nat} {Q : Option Nat → SortSt → Prop} (hk : kindOf st = κ) (g : Gs G st) (hz : lo + nr ≤ (arrOf st).size) (h1 : 1 ≤ nr)
    (h : ∀ m st', Tr lo (lo + nr) st st' → 1 ≤ m → m ≤ nr → Asc lt (arrOf st') lo (lo + m) → Q (some m) st') : wpS (model prog w) A E s (countRun' lo nr) Q st := by
  rw [cnt_eq]
  refine wpS_bind (wpS_asL C hk g hz (Nat.le_refl _) h1 (fun i j i1 i2 i3 => by rw [show i = j by lia]; exact C.irr _) fun n n1 n2 as hor => ?_)
  dsimp only
  split
  · exact wpS_pure (h n st (Tr.rfl' _ _ _) n1 n2 as)
  · rename_i hne
    have hne' : n ≠ nr := by simpa using hne
    have hl := hor.resolve_left hne'
    split
    · refine wpS_bind (wpS_ltK C hk g (by lia) (by lia) ?_)
      dsimp only
      cases e : lt (Kz (arrOf st) lo) (Kz (arrOf st) (lo + n - 1))
      · simp only [Bool.false_eq_true, if_false]
        have hz' : lo + n ≤ (arrOf st).size := by lia
        have tr : Tr lo (lo + nr) st (setArr st (mirror (arrOf st) lo (lo + n) ((lo + n - lo) / 2))) := Tr.mir (Nat.le_refl _) (by lia) hz'
        have all : ∀ k, lo ≤ k → k < lo + n → Eqv lt (Kz (arrOf st) k) (Kz (arrOf st) (lo + n - 1)) := fun k k1 k2 =>
          ⟨C.tra _ _ _ (as k (lo + n - 1) k1 (by lia) (by lia) |> fun z => by exact C.tra _ _ _ e (as lo k (Nat.le_refl _) k1 k2)) (C.irr _), as k (lo + n - 1) k1 (by lia) (by lia)⟩
        refine wpS_bind (wpS_rev (wpS_deP C (tr.kind.trans hk) (tr.gs g) (by rw [tr.size]; exact hz) (by lia) ?_ fun m st' tr2 => h m st' (tr.trans tr2)))
        have ev := mir_eqv C hz' all
        have ds : Des lt (arrOf st) lo (lo + (n + 1)) := by
          refine des_more C (fun i j i1 i2 i3 => ?_) (by lia) (C.asy _ _ hl)
          exact (Eqv.trans C (all i i1 (by lia)) (all j (by lia) i3).symm).1
        intro i j i1 i2 i3
        exact eqv_le C (ev j) (ev i) (ds i j i1 i2 i3)
      · simp only [if_true]
        exact wpS_pure (h n st (Tr.rfl' _ _ _) n1 n2 as)
    · have : n = 1 := by lia
      subst this
      refine wpS_deP C hk g hz (by lia) ?_ h
      exact des_more C (fun i j i1 i2 i3 => by rw [show i = j by lia]; exact C.irr _) (Nat.le_refl _) (C.asy _ _ hl)
end
end Srt
set_option maxRecDepth 100000
set_option maxHeartbeats 4000000
namespace Srt
open PySem PyProof.Rows
theorem Kz_bub {xs : Array Keyed} {src d : Nat} (hs : src < xs.size) (hd : d ≤ src) (k : Nat) : Kz (bubble xs src d) k = if k = src - d then Kz xs src else if src - d < k ∧ k ≤ src then Kz xs (k - 1) else Kz xs k := by
  have e := getElem?_bubble hs d hd k
  split
  · rename_i h; rw [if_pos h] at e; exact Kz_congr e
  · rename_i h; rw [if_neg h] at e
    split
    · rename_i h2; rw [if_pos h2] at e; exact Kz_congr e
    · rename_i h2; rw [if_neg h2] at e; exact Kz_congr e
theorem Tr.bub {lo hi src d : Nat} {st : SortSt} (h1 : lo ≤ src - d) (h2 : src < hi) (h3 : src < (arrOf st).size) (hd : d ≤ src) : Tr lo hi st (setArr st (bubble (arrOf st) src d)) :=
  ⟨rfl, rfl, rfl, bubble_perm _ _ _, fun k hk => by show (bubble (arrOf st) src d)[k]? = _; rw [getElem?_bubble h3 d hd, if_neg (by lia), if_neg (by lia)]⟩
section
variable {prog : Program} {w : World} {A : Around} {E : Value → Shared → Prop} {s : Shared} {κ : SortKind} {G : Value → Prop} {lt : Value → Value → Bool}
theorem wpS_bin (C : Cmp prog w A s κ G lt) {st : SortSt} {lo n ok : Nat} {Q : Bool → SortSt → Prop} (hk : kindOf st = κ) (g : Gs G st) (hz : lo + n ≤ (arrOf st).size) (hok : ok ≤ n) (hs : Asc lt (arrOf st) lo (lo + ok))
    (h : ∀ st', Tr lo (lo + n) st st' → Asc lt (arrOf st') lo (lo + n) → Q true st') : wpS (model prog w) A E s (binarySort' lo n ok) Q st := by
  rw [binarySort'_eq]
  refine wpS_bind (wpS_mono (wpS_forRange (I := fun k c st' => c = (none, ()) ∧ Tr lo (lo + n) st st' ∧ Asc lt (arrOf st') lo (lo + min k n))
    (Q := fun c st' => c = (none, ()) ∧ Tr lo (lo + n) st st' ∧ Asc lt (arrOf st') lo (lo + n)) ?_ ?_ ?_) ?_)
  · rintro k c st' hk1 hk2 ⟨rfl, tr, as⟩
    rw [show min k n = k by lia] at as
    have hk' := tr.kind.trans hk
    have g' := tr.gs g
    have hz' : lo + n ≤ (arrOf st').size := by rw [tr.size]; exact hz
    refine wpS_bind (wpS_mono (wpS_forRange (I := fun x c st'' => st'' = st' ∧ ∃ l r, c = (none, l, r) ∧ l ≤ r ∧ r ≤ k ∧ r - l ≤ k - x ∧
        (∀ i, i < l → lt (Kz (arrOf st') (lo + k)) (Kz (arrOf st') (lo + i)) = false) ∧ (∀ i, r ≤ i → i < k → lt (Kz (arrOf st') (lo + k)) (Kz (arrOf st') (lo + i)) = true))
      (Q := fun c st'' => st'' = st' ∧ ∃ l r, c = (none, l, r) ∧ l ≤ k ∧
        (∀ i, i < l → lt (Kz (arrOf st') (lo + k)) (Kz (arrOf st') (lo + i)) = false) ∧ (∀ i, l ≤ i → i < k → lt (Kz (arrOf st') (lo + k)) (Kz (arrOf st') (lo + i)) = true)) ?_ ?_ ?_) ?_)
    · rintro x c st'' _ hx ⟨rfl, l, r, rfl, h1, h2, h3, h4, h5⟩
      dsimp only
      by_cases hge : l ≥ r
      · rw [if_pos hge]
        have : l = r := by lia
        subst this
        exact wpS_pure ⟨rfl, l, l, rfl, h2, h4, h5⟩
      · rw [if_neg hge]
        refine wpS_bind (wpS_ltK C hk' g' (by lia) (by lia) ?_)
        dsimp only
        cases e : lt (Kz (arrOf st'') (lo + k)) (Kz (arrOf st'') (lo + (l + r) / 2))
        · simp only [Bool.false_eq_true, if_false]
          refine wpS_pure ⟨rfl, (l + r) / 2 + 1, r, rfl, by lia, by lia, by lia, fun i i1 => ?_, h5⟩
          exact C.tra _ _ _ (as (lo + i) (lo + (l + r) / 2) (by lia) (by lia) (by lia)) e
        · simp only [if_true]
          refine wpS_pure ⟨rfl, l, (l + r) / 2, rfl, by lia, by lia, by lia, h4, fun i i1 i2 => ?_⟩
          cases e2 : lt (Kz (arrOf st'') (lo + k)) (Kz (arrOf st'') (lo + i))
          · have := C.tra _ _ _ (as (lo + (l + r) / 2) (lo + i) (by lia) (by lia) (by lia)) e2
            rw [this] at e; cases e
          · rfl
    · rintro c st'' ⟨rfl, l, r, rfl, h1, h2, h3, h4, h5⟩
      have : l = r := by lia
      subst this
      exact ⟨rfl, l, l, rfl, h2, h4, h5⟩
    · exact ⟨rfl, 0, k, rfl, by lia, by lia, by lia, fun i hi => by lia, fun i i1 i2 => by lia⟩
    · rintro c st'' ⟨rfl, l, r, rfl, h2, h4, h5⟩
      show wpS _ _ _ _ (do moveDown' (lo + k) (lo + l); pure (ForInStep.yield (none, ()))) _ _
      rw [moveDown'_eq]
      have hks : lo + k < (arrOf st'').size := by lia
      refine wpS_bind (wpS_modify (wpS_pure ⟨rfl, tr.trans (Tr.bub (by lia) (by lia) hks (by lia)), ?_⟩))
      rw [show min (k + 1) n = k + 1 by lia]
      intro i j i1 i2 i3
      show lt (Kz (bubble (arrOf st'') (lo + k) (lo + k - (lo + l))) j) (Kz (bubble (arrOf st'') (lo + k) (lo + k - (lo + l))) i) = false
      rw [Kz_bub hks (by lia), Kz_bub hks (by lia), show lo + k - (lo + k - (lo + l)) = lo + l by lia]
      have q4 : ∀ i, lo ≤ i → i < lo + l → lt (Kz (arrOf st'') (lo + k)) (Kz (arrOf st'') i) = false := fun i a b => by
        have := h4 (i - lo) (by lia); rwa [show lo + (i - lo) = i by lia] at this
      have q5 : ∀ i, lo + l ≤ i → i < lo + k → lt (Kz (arrOf st'') i) (Kz (arrOf st'') (lo + k)) = false := fun i a b => by
        have := C.asy _ _ (h5 (i - lo) (by lia) (by lia)); rwa [show lo + (i - lo) = i by lia] at this
      repeat' split
      all_goals first
        | (exfalso; lia)
        | exact C.irr _
        | exact q4 _ (by lia) (by lia)
        | exact q5 _ (by lia) (by lia)
        | exact as _ _ (by lia) (by lia) (by lia)
  · rintro c st' ⟨hc, tr, as⟩
    rw [show min (max (max ok 1) n) n = n by lia] at as
    exact ⟨hc, tr, as⟩
  · refine ⟨rfl, Tr.rfl' _ _ _, fun i j i1 i2 i3 => ?_⟩
    by_cases h1 : ok = 0
    · rw [show i = j by lia]; exact C.irr _
    · exact hs i j i1 i2 (by lia)
  · rintro c st' ⟨rfl, tr, as⟩
    exact wpS_pure (h st' tr as)
end
end Srt
set_option maxRecDepth 100000
set_option maxHeartbeats 4000000
namespace Srt
open PySem PyProof.Rows
theorem mAt_lit (i : Nat) : mergeAt' i = (do
  let s ← get
  let (some (l, n, p), some (r, m, _)) := ((pendingOf s)[i]?, (pendingOf s)[i + 1]?) | unsupported "internal:list.sort.pending"
  set (setPending s (((pendingOf s).setIfInBounds i (l, n + m, p)).eraseIdxIfInBounds (i + 1)))
  let some k ← gal' false (← elem' (arrOf s) r) (arrOf s) l n 0 | return false
  let (l, n) := (l + k, n - k)
  if n == 0 then return true
  let some m ← gal' true (← elem' (arrOf s) (l + n - 1)) (arrOf s) r m (m - 1) | return false
  if m == 0 then return true
  let x := (arrOf s).extract l r
  let y := (arrOf s).extract r (r + m)
  let z ← if n ≤ m then mLo' x y else mHi' x y
  modify fun s => setArr s (z.toList.zipIdx.foldl (fun a (p, j) => a.setIfInBounds (l + j) p) (arrOf s))
  return (failedOf (← get)).isNone) := rfl
theorem put_list {o : Nat} : ∀ (l : List Keyed) (j : Nat) (xs : Array Keyed) (T Y R : List Keyed), xs.toList = T ++ Y ++ R → T.length = o + j → Y.length = l.length →
    ((l.zipIdx j).foldl (fun a (p, j) => a.setIfInBounds (o + j) p) xs).toList = T ++ l ++ R
  | [], j, xs, T, Y, R, h, h1, h2 => by
    have : Y = [] := List.length_eq_zero_iff.mp h2
    subst this
    exact h
  | p :: l, j, xs, T, y :: Y, R, h, h1, h2 => by
    rw [List.zipIdx_cons, List.foldl_cons]
    have e : (xs.setIfInBounds (o + j) p).toList = (T ++ [p]) ++ Y ++ R := by
      rw [Array.toList_setIfInBounds, h, ← h1]
      simp
    rw [put_list l (j + 1) _ (T ++ [p]) Y R e (by simp; lia) (by simpa using h2)]
    simp
section
variable {prog : Program} {w : World} {A : Around} {E : Value → Shared → Prop} {s : Shared} {κ : SortKind} {G : Value → Prop} {lt : Value → Value → Bool}
theorem asc_mid (C : Cmp prog w A s κ G lt) {xs : Array Keyed} {T X R : List Keyed} {lo hi : Nat} (h : xs.toList = T ++ X ++ R) (h1 : lo = T.length) (h2 : hi = lo + X.length) : Asc lt xs lo hi ↔ X.Pairwise (le lt) := by
  have hz : xs.size = T.length + X.length + R.length := by rw [← Array.length_toList, h]; simp; lia
  have at_ : ∀ i, (hi : i < X.length) → Kz xs (lo + i) = (X[i]).1 := by
    intro i hi
    have hl : lo + i < xs.size := by lia
    rw [Kz_at hl, ← Array.getElem_toList]
    congr 1
    simp only [h]
    rw [List.getElem_append_left (by simp; lia), List.getElem_append_right (by lia)]
    congr 1; lia
  constructor
  · intro as
    rw [List.pairwise_iff_getElem]
    intro i j hi hj hij
    have := as (lo + i) (lo + j) (by lia) (by lia) (by lia)
    rw [at_ i hi, at_ j hj] at this
    exact this
  · intro pw i j i1 i2 i3
    have e1 := at_ (i - lo) (by lia)
    have e2 := at_ (j - lo) (by lia)
    rw [show lo + (i - lo) = i by lia] at e1
    rw [show lo + (j - lo) = j by lia] at e2
    rw [e1, e2]
    exact le_at C (fun x => C.irr _) pw (by lia) (by lia)
theorem cut (l : List Keyed) (a b : Nat) (h1 : a ≤ b) (h2 : b ≤ l.length) : l = l.take a ++ (l.drop a).take (b - a) ++ l.drop b := by
  rw [List.append_assoc]
  have e : (l.drop a).take (b - a) ++ l.drop b = l.drop a := by
    have := List.take_append_drop (b - a) (l.drop a)
    rw [List.drop_drop, show a + (b - a) = b by lia] at this
    exact this
  rw [e, List.take_append_drop]
structure Aft (i l n m p : Nat) (st st' : SortSt) (lt : Value → Value → Bool) : Prop where
  kind : kindOf st' = kindOf st
  fail : failedOf st' = failedOf st
  pend : pendingOf st' = ((pendingOf st).setIfInBounds i (l, n + m, p)).eraseIdxIfInBounds (i + 1)
  perm : (arrOf st').Perm (arrOf st)
  out : ∀ k, (k < l ∨ l + n + m ≤ k) → Kz (arrOf st') k = Kz (arrOf st) k
  asc : Asc lt (arrOf st') l (l + n + m)
theorem wpS_mAt (C : Cmp prog w A s κ G lt) {st : SortSt} {i l n m p p' : Nat} {Q : Bool → SortSt → Prop} (hk : kindOf st = κ) (hf : failedOf st = none) (g : Gs G st)
    (e1 : (pendingOf st)[i]? = some (l, n, p)) (e2 : (pendingOf st)[i + 1]? = some (l + n, m, p')) (h1 : 1 ≤ n) (h2 : 1 ≤ m) (hz : l + n + m ≤ (arrOf st).size)
    (a1 : Asc lt (arrOf st) l (l + n)) (a2 : Asc lt (arrOf st) (l + n) (l + n + m)) (h : ∀ st', Aft i l n m p st st' lt → Q true st') : wpS (model prog w) A E s (mergeAt' i) Q st := by
  rw [mAt_lit]
  refine wpS_bind (wpS_get ?_)
  rw [e1, e2]
  dsimp only
  obtain ⟨st1, hst1⟩ : ∃ st1, st1 = setPending st (((pendingOf st).setIfInBounds i (l, n + m, p)).eraseIdxIfInBounds (i + 1)) := ⟨_, rfl⟩
  rw [← hst1]
  have hset : ∀ {R : PUnit → SortSt → Prop}, R ⟨⟩ st1 → wpS (model prog w) A E s (set st1 : StateT SortSt Sem PUnit) R st := by
    intro R hR
    unfold wpS; rw [StateT.run_set]; exact wpAny_pure ⟨rfl, hR⟩
  refine wpS_bind (hset ?_)
  have k1 : kindOf st1 = κ := by rw [hst1]; exact hk
  have f1 : failedOf st1 = none := by rw [hst1]; exact hf
  have r1 : arrOf st1 = arrOf st := by rw [hst1]
  have p1 : pendingOf st1 = ((pendingOf st).setIfInBounds i (l, n + m, p)).eraseIdxIfInBounds (i + 1) := by rw [hst1]
  have ge : ∀ j, (hj : j < (arrOf st).size) → G ((arrOf st)[j]).1 := fun j hj => g _ (by simp)
  have kle : ∀ i j, (hi : i < (arrOf st).size) → (hj : j < (arrOf st).size) → Kz (arrOf st) i = ((arrOf st)[i]).1 ∧ Kz (arrOf st) j = ((arrOf st)[j]).1 := fun i j hi hj => ⟨Kz_at hi, Kz_at hj⟩
  refine wpS_bind (wpS_elem (by lia) (wpS_bind (wpS_gal C k1 (ge _ (by lia)) g (by lia) (by lia) (fun x y hxy hy q1 => ?_) fun k hk1 g1 g2 => ?_)))
  · simp only [far1, Bool.false_eq_true, if_false, Bool.not_eq_true'] at q1 ⊢
    have := a1 (l + x) (l + y) (by lia) (by lia) (by lia)
    rw [Kz_at (by lia), Kz_at (by lia)] at this
    exact C.tra _ _ _ this q1
  dsimp only
  have g1' : ∀ x, l ≤ x → x < l + k → lt (Kz (arrOf st) (l + n)) (Kz (arrOf st) x) = false := by
    intro x x1 x2
    have := g1 (x - l) (by lia) (by lia)
    simp only [far1, Bool.false_eq_true, if_false, Bool.not_eq_true'] at this
    rw [Kz_at (by lia), Kz_at (by lia)]
    rw [← this]; congr 3; lia
  have g2' : ∀ x, l + k ≤ x → x < l + n → lt (Kz (arrOf st) (l + n)) (Kz (arrOf st) x) = true := by
    intro x x1 x2
    have := g2 (x - l) (by lia) (by lia)
    simp only [far1, Bool.false_eq_true, if_false, Bool.not_eq_false'] at this
    rw [Kz_at (by lia), Kz_at (by lia)]
    rw [← this]; congr 3; lia
  by_cases hkn : k = n
  · rw [if_pos (by first | (simp; done) | (simp; lia))]
    refine wpS_pure (h st1 ⟨k1.trans hk.symm, f1.trans hf.symm, p1, by rw [r1], fun _ _ => by rw [r1], ?_⟩)
    rw [r1]
    intro x y x1 x2 x3
    by_cases hy : y < l + n
    · exact a1 x y x1 x2 hy
    · by_cases hx : x < l + n
      · exact C.tra _ _ _ (g1' x x1 (by lia)) (a2 (l + n) y (by lia) (by lia) (by lia))
      · exact a2 x y (by lia) x2 x3
  rw [if_neg (by simp; lia)]
  have hlast : l + k + (n - k) - 1 = l + n - 1 := by lia
  refine wpS_bind (wpS_elem (by lia) (wpS_bind (wpS_gal C k1 (ge _ (by lia)) g (by lia) (by lia) (fun x y hxy hy q1 => ?_) fun j hj1 j1 j2 => ?_)))
  · simp only [far1, if_true] at q1 ⊢
    have := a2 (l + n + x) (l + n + y) (by lia) (by lia) (by lia)
    rw [Kz_at (by lia), Kz_at (by lia)] at this
    cases e3 : lt ((arrOf st)[l + n + x]'(by lia)).1 ((arrOf st)[l + k + (n - k) - 1]'(by lia)).1
    · rw [C.tra _ _ _ e3 this] at q1; cases q1
    · rfl
  dsimp only
  have j1' : ∀ x, l + n ≤ x → x < l + n + j → lt (Kz (arrOf st) x) (Kz (arrOf st) (l + n - 1)) = true := by
    intro x x1 x2
    have := j1 (x - (l + n)) (by lia) (by lia)
    simp only [far1, if_true] at this
    rw [Kz_at (by lia), Kz_at (by lia)]
    rw [← this]; congr 3 <;> lia
  have j2' : ∀ x, l + n + j ≤ x → x < l + n + m → lt (Kz (arrOf st) x) (Kz (arrOf st) (l + n - 1)) = false := by
    intro x x1 x2
    have := j2 (x - (l + n)) (by lia) (by lia)
    simp only [far1, if_true] at this
    rw [Kz_at (by lia), Kz_at (by lia)]
    rw [← this]; congr 3 <;> lia
  by_cases hj0 : j = 0
  · rw [if_pos (by first | (simp; done) | (simp; lia))]
    refine wpS_pure (h st1 ⟨k1.trans hk.symm, f1.trans hf.symm, p1, by rw [r1], fun _ _ => by rw [r1], ?_⟩)
    rw [r1]
    intro x y x1 x2 x3
    by_cases hy : y < l + n
    · exact a1 x y x1 x2 hy
    · by_cases hx : x < l + n
      · exact C.tra _ _ _ (a1 x (l + n - 1) x1 (by lia) (by lia)) (j2' y (by lia) (by lia))
      · exact a2 x y (by lia) x2 x3
  rw [if_neg (by simp; lia)]
  obtain ⟨a, ha⟩ : ∃ a, a = (arrOf st).extract (l + k) (l + n) := ⟨_, rfl⟩
  obtain ⟨b, hb⟩ : ∃ b, b = (arrOf st).extract (l + n) (l + n + j) := ⟨_, rfl⟩
  rw [← ha, ← hb]
  obtain ⟨L, hL⟩ : ∃ L, L = (arrOf st).toList := ⟨_, rfl⟩
  have hLz : L.length = (arrOf st).size := by rw [hL]; simp
  have la : a.toList = (L.drop (l + k)).take (l + n - (l + k)) := by rw [ha, hL, Array.toList_extract]
  have lb : b.toList = (L.drop (l + n)).take (l + n + j - (l + n)) := by rw [hb, hL, Array.toList_extract]
  have sza : a.size = n - k := by rw [← Array.length_toList, la]; simp; lia
  have szb : b.size = j := by rw [← Array.length_toList, lb]; simp; lia
  have ga : ∀ q ∈ a.toList, G q.1 := fun q hq => g q (by rw [la] at hq; rw [← hL]; exact List.mem_of_mem_drop (List.mem_of_mem_take hq))
  have gb : ∀ q ∈ b.toList, G q.1 := fun q hq => g q (by rw [lb] at hq; rw [← hL]; exact List.mem_of_mem_drop (List.mem_of_mem_take hq))
  have memA : ∀ q ∈ a.toList, ∃ x, l + k ≤ x ∧ x < l + n ∧ q.1 = Kz (arrOf st) x := by
    intro q hq
    rw [la] at hq
    obtain ⟨y, hy, rfl⟩ := List.mem_iff_getElem.mp hq
    simp only [List.length_take, List.length_drop] at hy
    refine ⟨l + k + y, by lia, by lia, ?_⟩
    rw [Kz_at (by lia)]
    simp [hL]
  have memB : ∀ q ∈ b.toList, ∃ x, l + n ≤ x ∧ x < l + n + j ∧ q.1 = Kz (arrOf st) x := by
    intro q hq
    rw [lb] at hq
    obtain ⟨y, hy, rfl⟩ := List.mem_iff_getElem.mp hq
    simp only [List.length_take, List.length_drop] at hy
    refine ⟨l + n + y, by lia, by lia, ?_⟩
    rw [Kz_at (by lia)]
    simp [hL]
  have sA : a.toList.Pairwise (le lt) := by
    rw [la]
    refine (asc_mid C (xs := arrOf st) (lo := l + k) (hi := l + n) (T := L.take (l + k)) (R := L.drop (l + n)) (by rw [← hL]; exact cut L (l + k) (l + n) (by lia) (by lia)) (by simp; lia) (by simp; lia)).mp ?_
    exact fun x y x1 x2 x3 => a1 x y (by lia) x2 x3
  have sB : b.toList.Pairwise (le lt) := by
    rw [lb]
    refine (asc_mid C (xs := arrOf st) (lo := l + n) (hi := l + n + j) (T := L.take (l + n)) (R := L.drop (l + n + j)) (by rw [← hL]; exact cut L (l + n) (l + n + j) (by lia) (by lia)) (by simp; lia) (by simp; lia)).mp ?_
    exact fun x y x1 x2 x3 => a2 x y (by lia) x2 (by lia)
  have H : Mh G lt a b := by
    refine ⟨ga, gb, sA, sB, by lia, by lia, fun q hq => ?_, fun q hq => ?_⟩
    · obtain ⟨x, x1, x2, e⟩ := memA q hq
      have e0 : (b[0]'(by lia)).1 = Kz (arrOf st) (l + n) := by
        rw [Kz_at (by lia)]
        simp [hb]
      rw [e, e0]
      exact g2' x x1 x2
    · obtain ⟨x, x1, x2, e⟩ := memB q hq
      have e0 : (a[a.size - 1]'(by lia)).1 = Kz (arrOf st) (l + n - 1) := by
        rw [Kz_at (by lia)]
        simp only [ha, Array.getElem_extract]
        congr 2
        simp
        lia
      rw [e, e0]
      exact j1' x x1 x2
  have fin : ∀ z st2, Eg st1 st2 → Rm lt a b z → wpS (model prog w) A E s (do
      modify fun s => setArr s (z.toList.zipIdx.foldl (fun a (p, j) => a.setIfInBounds (l + k + j) p) (arrOf s))
      return (failedOf (← get)).isNone) Q st2 := by
    intro z st2 eg rm
    refine wpS_bind (wpS_modify (wpS_bind (wpS_get ?_)))
    obtain ⟨Z, hZ⟩ : ∃ Z, Z = z.toList.zipIdx.foldl (fun a (p, j) => a.setIfInBounds (l + k + j) p) (arrOf st2) := ⟨_, rfl⟩
    rw [← hZ]
    show wpS (model prog w) A E s (pure (failedOf st2).isNone) Q (setArr st2 Z)
    rw [show (failedOf st2).isNone = true by rw [eg.2.2.2, f1]; rfl]
    have r2 : arrOf st2 = arrOf st := eg.2.1.trans r1
    have zlen : z.toList.length = n - k + j := by rw [rm.1.length_eq, List.length_append, Array.length_toList, Array.length_toList, sza, szb]
    have zsz : z.size = n - k + j := by rw [← Array.length_toList]; exact zlen
    obtain ⟨T, hT⟩ : ∃ T, T = L.take l := ⟨_, rfl⟩
    obtain ⟨P, hP⟩ : ∃ P, P = (L.drop l).take k := ⟨_, rfl⟩
    obtain ⟨S, hS⟩ : ∃ S, S = (L.drop (l + n + j)).take (m - j) := ⟨_, rfl⟩
    obtain ⟨R, hR⟩ : ∃ R, R = L.drop (l + n + m) := ⟨_, rfl⟩
    have lenT : T.length = l := by rw [hT]; simp; lia
    have lenP : P.length = k := by rw [hP]; simp; lia
    have lenS : S.length = m - j := by rw [hS]; simp; lia
    have c1 : L = T ++ P ++ a.toList ++ b.toList ++ S ++ R := by
      have d1 := cut L l (l + k) (by lia) (by lia)
      have d2 : L.drop (l + k) = a.toList ++ L.drop (l + n) := by
        have := List.take_append_drop (l + n - (l + k)) (L.drop (l + k))
        rw [List.drop_drop, show l + k + (l + n - (l + k)) = l + n by lia, ← la] at this
        exact this.symm
      have d3 : L.drop (l + n) = b.toList ++ L.drop (l + n + j) := by
        have := List.take_append_drop (l + n + j - (l + n)) (L.drop (l + n))
        rw [List.drop_drop, show l + n + (l + n + j - (l + n)) = l + n + j by lia, ← lb] at this
        exact this.symm
      have d4 : L.drop (l + n + j) = S ++ R := by
        have := List.take_append_drop (m - j) (L.drop (l + n + j))
        rw [List.drop_drop, show l + n + j + (m - j) = l + n + m by lia, ← hS, ← hR] at this
        exact this.symm
      rw [d2, d3, d4, show l + k - l = k by lia, ← hT, ← hP] at d1
      rw [d1]
      simp only [List.append_assoc]
    have c2 : Z.toList = T ++ P ++ z.toList ++ S ++ R := by
      have := put_list (o := l + k) z.toList 0 (arrOf st2) (T ++ P) (a.toList ++ b.toList) (S ++ R) (by rw [r2, ← hL, c1]; simp only [List.append_assoc]) (by simp; lia) (by simp; lia)
      rw [← hZ] at this
      rw [this]
      simp only [List.append_assoc]
    have perm : Z.Perm (arrOf st) := by
      refine Array.perm_iff_toList_perm.mpr ?_
      rw [c2, ← hL, c1]
      have := rm.1
      have q1 : (T ++ P ++ z.toList ++ S ++ R).Perm (T ++ P ++ (a.toList ++ b.toList) ++ S ++ R) := ((List.Perm.append_left _ this).append_right _).append_right _
      rw [← List.append_assoc (T ++ P)] at q1
      exact q1
    have zs : Z.size = (arrOf st).size := perm.size_eq
    have kout : ∀ x, (x < l ∨ l + n + m ≤ x) → Kz Z x = Kz (arrOf st) x := by
      intro x hx
      refine Kz_congr ?_
      rw [← Array.getElem?_toList, ← Array.getElem?_toList, c2, ← hL, c1]
      rcases hx with hx | hx
      · simp only [List.append_assoc]
        rw [List.getElem?_append_left (by lia), List.getElem?_append_left (by lia)]
      · rw [List.getElem?_append_right (by simp; lia), List.getElem?_append_right (by simp; lia)]
        congr 1
        simp
        lia
    have sP : ∀ q ∈ P, ∃ x, l ≤ x ∧ x < l + k ∧ q.1 = Kz (arrOf st) x := by
      intro q hq
      rw [hP] at hq
      obtain ⟨y, hy, rfl⟩ := List.mem_iff_getElem.mp hq
      simp only [List.length_take, List.length_drop] at hy
      refine ⟨l + y, by lia, by lia, ?_⟩
      rw [Kz_at (by lia)]
      simp [hL]
    have sS : ∀ q ∈ S, ∃ x, l + n + j ≤ x ∧ x < l + n + m ∧ q.1 = Kz (arrOf st) x := by
      intro q hq
      rw [hS] at hq
      obtain ⟨y, hy, rfl⟩ := List.mem_iff_getElem.mp hq
      simp only [List.length_take, List.length_drop] at hy
      refine ⟨l + n + j + y, by lia, by lia, ?_⟩
      rw [Kz_at (by lia)]
      simp [hL]
    have asc : Asc lt Z l (l + n + m) := by
      refine (asc_mid C (T := T) (X := P ++ z.toList ++ S) (R := R) (by rw [c2]; simp only [List.append_assoc]) lenT.symm (by simp; lia)).mpr ?_
      have pP : P.Pairwise (le lt) := by
        refine (asc_mid C (xs := arrOf st) (lo := l) (hi := l + k) (T := T) (R := a.toList ++ b.toList ++ S ++ R) (by rw [← hL, c1]; simp only [List.append_assoc]) lenT.symm (by lia)).mp ?_
        exact fun x y x1 x2 x3 => a1 x y x1 x2 (by lia)
      have pS : S.Pairwise (le lt) := by
        refine (asc_mid C (xs := arrOf st) (lo := l + n + j) (hi := l + n + m) (T := T ++ P ++ a.toList ++ b.toList) (R := R) (by rw [← hL, c1]) (by simp; lia) (by lia)).mp ?_
        exact fun x y x1 x2 x3 => a2 x y (by lia) x2 x3
      refine List.pairwise_append.mpr ⟨List.pairwise_append.mpr ⟨pP, rm.2, fun q hq r hr => ?_⟩, pS, fun q hq r hr => ?_⟩
      · obtain ⟨x, x1, x2, ex⟩ := sP q hq
        unfold le
        rcases List.mem_append.mp (rm.1.mem_iff.mp hr) with hr | hr
        · obtain ⟨y, y1, y2, ey⟩ := memA r hr
          rw [ex, ey]
          exact a1 x y x1 (by lia) y2
        · obtain ⟨y, y1, y2, ey⟩ := memB r hr
          rw [ex, ey]
          exact C.tra _ _ _ (g1' x x1 x2) (a2 (l + n) y (by lia) y1 (by lia))
      · obtain ⟨y, y1, y2, ey⟩ := sS r hr
        unfold le
        have fromA : ∀ x, l ≤ x → x < l + n → lt (Kz (arrOf st) y) (Kz (arrOf st) x) = false := fun x x1 x2 => C.tra _ _ _ (a1 x (l + n - 1) x1 (by lia) (by lia)) (j2' y y1 y2)
        rcases List.mem_append.mp hq with hq | hq
        · obtain ⟨x, x1, x2, ex⟩ := sP q hq
          rw [ex, ey]
          exact fromA x x1 (by lia)
        · rcases List.mem_append.mp (rm.1.mem_iff.mp hq) with hq | hq
          · obtain ⟨x, x1, x2, ex⟩ := memA q hq
            rw [ex, ey]
            exact fromA x (by lia) x2
          · obtain ⟨x, x1, x2, ex⟩ := memB q hq
            rw [ex, ey]
            exact a2 x y x1 (by lia) y2
    exact wpS_pure (h _ ⟨(eg.1.trans k1).trans hk.symm, (eg.2.2.2.trans f1).trans hf.symm, eg.2.2.1.trans p1, perm, kout, asc⟩)
  by_cases hc : n - k ≤ j
  · rw [if_pos hc]
    exact wpS_bind (wpS_mLo C H k1 fun z st2 eg rm => fin z st2 eg rm)
  · rw [if_neg hc]
    exact wpS_bind (wpS_mHi C H k1 fun z st2 eg rm => fin z st2 eg rm)
end
end Srt
set_option maxRecDepth 100000
set_option maxHeartbeats 4000000
namespace Srt
open PySem PyProof.Rows
abbrev Pd := Nat × Nat × Nat
def Rn (lt : Value → Value → Bool) (xs : Array Keyed) : Nat → List Pd → Nat → Prop
  | b, [], e => b = e
  | b, q :: r, e => q.1 = b ∧ 1 ≤ q.2.1 ∧ Asc lt xs b (b + q.2.1) ∧ Rn lt xs (b + q.2.1) r e
section
variable {lt : Value → Value → Bool}
theorem Rn.len {xs : Array Keyed} : ∀ {l : List Pd} {b e : Nat}, Rn lt xs b l e → b + l.length ≤ e
  | [], b, e, h => by have : b = e := h; simp; lia
  | q :: r, b, e, h => by have := Rn.len h.2.2.2; have := h.2.1; simp; lia
theorem Asc.same {xs ys : Array Keyed} {lo hi : Nat} (h : Asc lt xs lo hi) (hs : ∀ k, lo ≤ k → k < hi → Kz ys k = Kz xs k) : Asc lt ys lo hi := by
  intro i j i1 i2 i3
  rw [hs i i1 (by lia), hs j (by lia) i3]
  exact h i j i1 i2 i3
theorem Rn.same {xs ys : Array Keyed} : ∀ {l : List Pd} {b e : Nat}, Rn lt xs b l e → (∀ k, b ≤ k → k < e → Kz ys k = Kz xs k) → Rn lt ys b l e
  | [], b, e, h, _ => h
  | q :: r, b, e, h, hs => by
    have := h.2.2.2.len
    exact ⟨h.1, h.2.1, h.2.2.1.same fun k k1 k2 => hs k k1 (by lia), h.2.2.2.same fun k k1 k2 => hs k (by lia) k2⟩
theorem Rn.push {xs : Array Keyed} : ∀ {l : List Pd} {b e n p : Nat}, Rn lt xs b l e → 1 ≤ n → Asc lt xs e (e + n) → Rn lt xs b (l ++ [(e, n, p)]) (e + n)
  | [], b, e, n, p, h, hn, as => by have : b = e := h; subst this; exact ⟨rfl, hn, as, rfl⟩
  | q :: r, b, e, n, p, h, hn, as => ⟨h.1, h.2.1, h.2.2.1, h.2.2.2.push hn as⟩
theorem Rn.modif {xs : Array Keyed} (f : Pd → Pd) (hf : ∀ q, (f q).1 = q.1 ∧ (f q).2.1 = q.2.1) : ∀ {l : List Pd} {i b e : Nat}, Rn lt xs b l e → Rn lt xs b (l.modify i f) e
  | [], i, b, e, h => by simpa using h
  | q :: r, 0, b, e, h => by
    rw [List.modify_zero_cons]
    unfold Rn at h ⊢
    rw [(hf q).1, (hf q).2]; exact h
  | q :: r, i + 1, b, e, h => by
    rw [List.modify_succ_cons]
    exact ⟨h.1, h.2.1, h.2.2.1, h.2.2.2.modif f hf⟩
theorem Rn.two {xs : Array Keyed} : ∀ {l : List Pd} {i b e : Nat} {l0 n p r m p' : Nat}, Rn lt xs b l e → l[i]? = some (l0, n, p) → l[i + 1]? = some (r, m, p') →
    r = l0 + n ∧ 1 ≤ n ∧ 1 ≤ m ∧ b ≤ l0 ∧ l0 + n + m ≤ e ∧ Asc lt xs l0 (l0 + n) ∧ Asc lt xs (l0 + n) (l0 + n + m) ∧
    ∀ ys : Array Keyed, (∀ k, (k < l0 ∨ l0 + n + m ≤ k) → Kz ys k = Kz xs k) → Asc lt ys l0 (l0 + n + m) → Rn lt ys b ((l.set i (l0, n + m, p)).eraseIdx (i + 1)) e
  | [], i, b, e, l0, n, p, r, m, p', h, e1, e2 => by simp at e1
  | [q], 0, b, e, l0, n, p, r, m, p', h, e1, e2 => by simp at e2
  | q :: q2 :: r', 0, b, e, l0, n, p, r, m, p', h, e1, e2 => by
    simp at e1 e2
    subst e1; subst e2
    obtain ⟨h1, h2, h3, h4, h5, h6, h7⟩ := h
    dsimp only at h1 h2 h3 h4 h5 h6 h7
    subst h1
    have hl := h7.len
    refine ⟨h4, h2, h5, Nat.le_refl _, by lia, h3, h6, fun ys hs as => ?_⟩
    rw [List.set_cons_zero, List.eraseIdx_cons_succ, List.eraseIdx_cons_zero]
    refine ⟨rfl, by show 1 ≤ n + m; lia, by show Asc lt ys l0 (l0 + (n + m)); rw [← Nat.add_assoc]; exact as, ?_⟩
    show Rn lt ys (l0 + (n + m)) r' e
    rw [← Nat.add_assoc]
    exact h7.same fun k k1 k2 => hs k (.inr k1)
  | q :: l, i + 1, b, e, l0, n, p, r, m, p', h, e1, e2 => by
    rw [List.getElem?_cons_succ] at e1 e2
    obtain ⟨h1, h2, h3, h4⟩ := h
    obtain ⟨a1, a2, a3, a4, a5, a6, a7, a8⟩ := Rn.two h4 e1 e2
    refine ⟨a1, a2, a3, by lia, a5, a6, a7, fun ys hs as => ?_⟩
    rw [List.set_cons_succ, List.eraseIdx_cons_succ]
    exact ⟨h1, h2, h3.same fun k k1 k2 => hs k (.inl (by lia)), a8 ys hs as⟩
end
abbrev OU := Option Unit × Unit
abbrev ON := Option Unit × Nat
def srM (sz pw : Nat) : StateT SortSt Sem OU :=
  forIn [0:sz] ((none, ()) : OU) fun _ _ => do
    let z ← get
    match if (pendingOf z).size > 1 then (pendingOf z)[(pendingOf z).size - 2]? else none with
    | some (_, _, ol) =>
      if ol ≤ pw then pure (.done (none, ())) else do
        let y ← mergeAt' ((pendingOf z).size - 2)
        if (!y) = true then pure (.done (some (), ())) else pure (.yield (none, ()))
    | _ => pure (.done (none, ()))
def srP (lo n : Nat) : StateT SortSt Sem (ForInStep ON) := do
  modify fun z => setPending z ((pendingOf z).push (lo, n, 0))
  pure (.yield (none, lo + n))
def srK (sz lo n : Nat) : StateT SortSt Sem (ForInStep ON) := do
  let z ← get
  match (pendingOf z).back? with
  | some (s1, n1, _) => do
    let t ← srM sz (power' sz (2 * s1 + n1) (2 * s1 + n1 + n1 + n) sz)
    match t.1 with
    | some r => pure (.done (some r, lo))
    | none => do
      modify fun z => setPending z ((pendingOf z).modify ((pendingOf z).size - 1) fun x => (x.1, x.2.1, power' sz (2 * s1 + n1) (2 * s1 + n1 + n1 + n) sz))
      srP lo n
  | _ => srP lo n
def srL (sz : Nat) (t : ON) : StateT SortSt Sem (ForInStep ON) :=
  if t.2 ≥ sz then pure (.done (none, t.2))
  else do
    match ← countRun' t.2 (sz - t.2) with
    | some fo =>
      if fo < minRun' sz sz 0 then do
        rule "list.sort.binary-insertion"
        let y ← binarySort' t.2 (min (sz - t.2) (minRun' sz sz 0)) fo
        if (!y) = true then pure (.done (some (), t.2)) else srK sz t.2 (min (sz - t.2) (minRun' sz sz 0))
      else srK sz t.2 fo
    | _ => pure (.done (some (), t.2))
def srI (z : SortSt) : Nat := if Option.any (fun x => decide (x < (pendingOf z)[(pendingOf z).size - 2 + 1]?.elim 0 fun x => x.2.1)) (if (pendingOf z).size - 2 > 0 then Option.map (fun x => x.2.1) (pendingOf z)[(pendingOf z).size - 2 - 1]? else none) = true then (pendingOf z).size - 2 - 1 else (pendingOf z).size - 2
def srE (sz : Nat) : StateT SortSt Sem OU :=
  forIn [0:sz] ((none, ()) : OU) fun _ _ => do
    let z ← get
    if (pendingOf z).size ≤ 1 then pure (.done (none, ())) else do
      let y ← mergeAt' (srI z)
      if (!y) = true then pure (.done (some (), ())) else pure (.yield (none, ()))
theorem runs_eq : sortRuns' = (do
    let z ← get
    let t ← forIn [0:(arrOf z).size] ((none, 0) : ON) fun _ => srL (arrOf z).size
    match t.1 with
    | some r => pure r
    | none => do
      let u ← srE (arrOf z).size
      match u.1 with
      | some r => pure r
      | none => pure ()) := by
  rw [sortRuns'_eq]
  dsimp only
  refine bc fun z => bc2 (fc fun _ t => ?_) fun t => ?_
  · unfold srL
    refine ite_congr rfl (fun _ => rfl) fun _ => bc fun x => ?_
    have kk : ∀ n (m : StateT SortSt Sem (ForInStep ON)), m = srK (arrOf z).size t.2 n → m = srK (arrOf z).size t.2 n := fun _ _ h => h
    cases x with
    | none => rfl
    | some fo =>
      dsimp only
      refine ite_congr rfl (fun _ => bc fun _ => bc fun y => ite_congr rfl (fun _ => rfl) fun _ => ?_) fun _ => ?_
      all_goals
        unfold srK
        refine bc fun z2 => ?_
        cases (pendingOf z2).back? with
        | none => rfl
        | some q =>
          obtain ⟨s1, n1, p1⟩ := q
          dsimp only
          refine bc2 rfl fun t2 => ?_
          obtain ⟨r2, u2⟩ := t2
          cases r2 <;> rfl
  · obtain ⟨r, n⟩ := t
    cases r with
    | some r => rfl
    | none =>
      dsimp only
      refine bc2 rfl fun u => ?_
      obtain ⟨r2, u2⟩ := u
      cases r2 <;> rfl
section
variable {prog : Program} {w : World} {A : Around} {E : Value → Shared → Prop} {s : Shared} {κ : SortKind} {G : Value → Prop} {lt : Value → Value → Bool} {a₀ : Array Keyed}
structure SI (κ : SortKind) (lt : Value → Value → Bool) (a₀ : Array Keyed) (lo : Nat) (st : SortSt) : Prop where
  kind : kindOf st = κ
  fail : failedOf st = none
  perm : (arrOf st).Perm a₀
  runs : Rn lt (arrOf st) 0 (pendingOf st).toList lo
theorem SI.gs {lo : Nat} {st : SortSt} (h : SI κ lt a₀ lo st) (g : ∀ p ∈ a₀.toList, G p.1) : Gs G st := fun p hp => g p ((Array.perm_iff_toList_perm.mp h.perm).mem_iff.mp hp)
theorem SI.size {lo : Nat} {st : SortSt} (h : SI κ lt a₀ lo st) : (arrOf st).size = a₀.size := h.perm.size_eq
theorem SI.merge (C : Cmp prog w A s κ G lt) (g : ∀ p ∈ a₀.toList, G p.1) {lo i : Nat} {st : SortSt} {Q : Bool → SortSt → Prop} (h : SI κ lt a₀ lo st) (hlo : lo ≤ a₀.size) (hi : i + 1 < (pendingOf st).size)
    (hq : ∀ st', SI κ lt a₀ lo st' → (pendingOf st').size + 1 = (pendingOf st).size → (∀ k, lo ≤ k → Kz (arrOf st') k = Kz (arrOf st) k) → Q true st') : wpS (model prog w) A E s (mergeAt' i) Q st := by
  obtain ⟨l, n, p, e1⟩ : ∃ l n p, (pendingOf st)[i] = (l, n, p) := ⟨_, _, _, rfl⟩
  obtain ⟨r, m, p', e2⟩ : ∃ r m p', (pendingOf st)[i + 1] = (r, m, p') := ⟨_, _, _, rfl⟩
  have f1 : (pendingOf st)[i]? = some (l, n, p) := by rw [getElem?_pos _ i (by lia), e1]
  have f2 : (pendingOf st)[i + 1]? = some (r, m, p') := by rw [getElem?_pos _ (i + 1) hi, e2]
  obtain ⟨a1, a2, a3, a4, a5, a6, a7, a8⟩ := Rn.two h.runs (by rw [Array.getElem?_toList]; exact f1) (by rw [Array.getElem?_toList]; exact f2)
  subst a1
  have hz := h.size
  refine wpS_mAt C h.kind h.fail (h.gs g) f1 f2 a2 a3 (by lia) a6 a7 fun st' af => ?_
  have ep : (pendingOf st').toList = ((pendingOf st).toList.set i (l, n + m, p)).eraseIdx (i + 1) := by
    rw [af.pend, Array.toList_eraseIdxIfInBounds, Array.toList_setIfInBounds]
  refine hq st' ⟨af.kind.trans h.kind, af.fail.trans h.fail, af.perm.trans h.perm, ?_⟩ ?_ (fun k hk => af.out k (.inr (by lia)))
  · rw [ep]
    exact a8 _ af.out af.asc
  · rw [← Array.length_toList, ep, List.length_eraseIdx, if_pos (by simpa using hi), List.length_set, Array.length_toList]
    lia
theorem wpS_srM (C : Cmp prog w A s κ G lt) (g : ∀ p ∈ a₀.toList, G p.1) {lo sz pw : Nat} {st : SortSt} {Q : OU → SortSt → Prop} (h : SI κ lt a₀ lo st) (hlo : lo ≤ a₀.size)
    (hq : ∀ st', SI κ lt a₀ lo st' → (∀ k, lo ≤ k → Kz (arrOf st') k = Kz (arrOf st) k) → Q (none, ()) st') : wpS (model prog w) A E s (srM sz pw) Q st := by
  unfold srM
  refine wpS_forRange (I := fun _ c st' => c = (none, ()) ∧ SI κ lt a₀ lo st' ∧ ∀ k, lo ≤ k → Kz (arrOf st') k = Kz (arrOf st) k) ?_ ?_ ⟨rfl, h, fun _ _ => rfl⟩
  · rintro x c st' _ _ ⟨rfl, hs, hf⟩
    refine wpS_bind (wpS_get ?_)
    split
    · rename_i q1 q2 ol eq
      by_cases hsz : (pendingOf st').size > 1
      · split
        · exact wpS_pure (hq st' hs hf)
        · refine wpS_bind (hs.merge C g hlo (by lia) fun st2 hs2 _ hf2 => ?_)
          simp only [Bool.not_true, Bool.false_eq_true, if_false]
          exact wpS_pure ⟨rfl, hs2, fun k hk => (hf2 k hk).trans (hf k hk)⟩
      · rw [if_neg hsz] at eq; cases eq
    · exact wpS_pure (hq st' hs hf)
  · rintro c st' ⟨rfl, hs, hf⟩
    exact hq st' hs hf
theorem wpS_srP {lo n : Nat} {st : SortSt} {Q : ForInStep ON → SortSt → Prop} (h : SI κ lt a₀ lo st) (hn : 1 ≤ n) (as : Asc lt (arrOf st) lo (lo + n))
    (hq : ∀ st', SI κ lt a₀ (lo + n) st' → Q (.yield (none, lo + n)) st') : wpS (model prog w) A E s (srP lo n) Q st := by
  unfold srP
  refine wpS_bind (wpS_modify (wpS_pure (hq _ ⟨h.kind, h.fail, h.perm, ?_⟩)))
  show Rn lt (arrOf st) 0 ((pendingOf st).push (lo, n, 0)).toList (lo + n)
  rw [Array.toList_push]
  exact h.runs.push hn as
theorem wpS_srK (C : Cmp prog w A s κ G lt) (g : ∀ p ∈ a₀.toList, G p.1) {lo n sz : Nat} {st : SortSt} {Q : ForInStep ON → SortSt → Prop} (h : SI κ lt a₀ lo st) (hlo : lo + n ≤ a₀.size) (hn : 1 ≤ n) (as : Asc lt (arrOf st) lo (lo + n))
    (hq : ∀ st', SI κ lt a₀ (lo + n) st' → Q (.yield (none, lo + n)) st') : wpS (model prog w) A E s (srK sz lo n) Q st := by
  unfold srK
  refine wpS_bind (wpS_get ?_)
  split
  · refine wpS_bind (wpS_srM C g h (by lia) fun st' hs hf => ?_)
    dsimp only
    refine wpS_bind (wpS_modify ?_)
    refine wpS_srP (a₀ := a₀) (κ := κ) ⟨hs.kind, hs.fail, hs.perm, ?_⟩ hn (as.same fun k k1 k2 => hf k k1) hq
    show Rn lt (arrOf st') 0 ((pendingOf st').modify ((pendingOf st').size - 1) _).toList lo
    rw [Array.toList_modify]
    refine Rn.modif _ ?_ hs.runs
    exact fun q => ⟨rfl, rfl⟩
  · exact wpS_srP h hn as hq
theorem SI.tr {lo hi : Nat} {st st' : SortSt} (h : SI κ lt a₀ lo st) (t : Tr lo hi st st') : SI κ lt a₀ lo st' :=
  ⟨t.kind.trans h.kind, t.fail.trans h.fail, t.perm.trans h.perm, by rw [t.pend]; exact h.runs.same fun k k1 k2 => Kz_congr (t.out k (.inl k2))⟩
theorem wpS_runs (C : Cmp prog w A s κ G lt) (g : ∀ p ∈ a₀.toList, G p.1) {st : SortSt} {Q : Unit → SortSt → Prop} (hk : kindOf st = κ) (hf : failedOf st = none) (ha : arrOf st = a₀) (hp : pendingOf st = #[])
    (hq : ∀ st', failedOf st' = none → (arrOf st').Perm a₀ → (arrOf st').toList.Pairwise (le lt) → Q () st') : wpS (model prog w) A E s sortRuns' Q st := by
  have h0 : SI κ lt a₀ 0 st := ⟨hk, hf, by rw [ha], by rw [hp]; rfl⟩
  rw [runs_eq]
  refine wpS_bind (wpS_get ?_)
  rw [ha]
  refine wpS_bind (wpS_mono (wpS_forRange (I := fun x c st' => ∃ lo, c = (none, lo) ∧ min x a₀.size ≤ lo ∧ lo ≤ a₀.size ∧ SI κ lt a₀ lo st')
    (Q := fun c st' => ∃ lo, c = (none, lo) ∧ lo = a₀.size ∧ SI κ lt a₀ lo st') ?_ ?_ ⟨0, rfl, by lia, by lia, h0⟩) ?_)
  · rintro x c st' _ hx ⟨lo, rfl, h1, h2, hs⟩
    unfold srL
    dsimp only
    split
    · exact wpS_pure ⟨lo, rfl, by lia, hs⟩
    · have hz := hs.size
      refine wpS_bind (wpS_cnt C hs.kind (hs.gs g) (by lia) (by lia) fun m st2 tr m1 m2 as => ?_)
      have hs2 := hs.tr tr
      have hz2 := hs2.size
      dsimp only
      split
      · refine wpS_bind (wpS_lift (wpAny_rule ⟨rfl, ?_⟩))
        refine wpS_bind (wpS_bin C hs2.kind (hs2.gs g) (by lia) (by lia) as fun st3 tr3 as3 => ?_)
        simp only [Bool.not_true, Bool.false_eq_true, if_false]
        exact wpS_srK C g (hs2.tr tr3) (by lia) (by lia) as3 fun st4 hs4 => ⟨_, rfl, by lia, by lia, hs4⟩
      · exact wpS_srK C g hs2 (by lia) m1 as fun st4 hs4 => ⟨_, rfl, by lia, by lia, hs4⟩
  · rintro c st' ⟨lo, rfl, h1, h2, hs⟩
    exact ⟨lo, rfl, by lia, hs⟩
  · rintro c st' ⟨lo, rfl, rfl, hs⟩
    dsimp only
    have fin : ∀ st2, SI κ lt a₀ a₀.size st2 → (pendingOf st2).size ≤ 1 → Q () st2 := by
      intro st2 hs2 hp2
      refine hq st2 hs2.fail hs2.perm ?_
      have r := hs2.runs
      have hz := hs2.size
      have as : Asc lt (arrOf st2) 0 a₀.size := by
        match e : (pendingOf st2).toList, r with
        | [], r =>
          have : 0 = a₀.size := r
          intro i j i1 i2 i3; lia
        | [q], r =>
          obtain ⟨r1, r2, r3, r4⟩ := r
          have : 0 + q.2.1 = a₀.size := r4
          rw [← this]; exact r3
        | q :: q2 :: l, r =>
          have := congrArg List.length e
          simp at this
          lia
      exact (asc_mid C (T := []) (X := (arrOf st2).toList) (R := []) (by simp) rfl (by simp; lia)).mp as
    unfold srE
    refine wpS_bind (wpS_mono (wpS_forRange (I := fun x c st2 => c = (none, ()) ∧ SI κ lt a₀ a₀.size st2 ∧ ((pendingOf st2).size ≤ 1 ∨ (pendingOf st2).size + x ≤ a₀.size))
      (Q := fun c st2 => c = (none, ()) ∧ SI κ lt a₀ a₀.size st2 ∧ (pendingOf st2).size ≤ 1) ?_ ?_ ⟨rfl, hs, .inr (by have := hs.runs.len; simp at this; lia)⟩) ?_)
    · rintro x c st2 _ hx ⟨rfl, hs2, hp2⟩
      refine wpS_bind (wpS_get ?_)
      split
      · rename_i h1
        exact wpS_pure ⟨rfl, hs2, h1⟩
      · rename_i h1
        have hI : srI st2 + 1 < (pendingOf st2).size := by
          unfold srI
          generalize (if (pendingOf st2).size - 2 > 0 then Option.map (fun x : Pd => x.2.1) (pendingOf st2)[(pendingOf st2).size - 2 - 1]? else none) = zz
          split <;> lia
        refine wpS_bind (hs2.merge C g (Nat.le_refl _) hI fun st3 hs3 hp3 _ => ?_)
        simp only [Bool.not_true, Bool.false_eq_true, if_false]
        exact wpS_pure ⟨rfl, hs3, .inr (by lia)⟩
    · rintro c st2 ⟨rfl, hs2, hp2⟩
      exact ⟨rfl, hs2, by lia⟩
    · rintro c st2 ⟨rfl, hs2, hp2⟩
      exact wpS_pure (fin st2 hs2 hp2)
end
end Srt
set_option maxRecDepth 100000
set_option maxHeartbeats 4000000
namespace Srt
open PySem PySem.SeqAt PySem.AutoSeq1 PySem.MeetsSeq PySem.MeetsSeq2 PySem.MeetsSeq3 PySem.SeqRoads2
def LtAt (A : Around) (s : Shared) (y x : Value) (b : Bool) : Prop := ∀ (prog : Program) (w : World) (E : Value → Shared → Prop) (Q : Value → Shared → Prop), Q (.bool b) s → wpAny (model prog w) A (richCompare .Lt y x) Q E s
inductive LexAt (A : Around) (s : Shared) (f : Bool) : List (Value × Value) → Bool → Prop
  | nil : LexAt A s f [] f
  | eq {x y r b} : EqAt A s x y true → LexAt A s f r b → LexAt A s f ((x, y) :: r) b
  | ne {x y r b} : EqAt A s x y false → LtAt A s x y b → LexAt A s f ((x, y) :: r) b
theorem tup_lt (l b : Addr) (is js : Array Value) (n n2 : Nat) (dd dd2 : Option Addr) (sl sl2 : Array (Option Value)) :
    Meets (Builtin.«tuple.__lt__» ⟨[.ref l, .ref b], []⟩)
      (fun A R s => s.heap.get? l = some { cls := .type "tuple", dict := dd, data := .seq is n, slots := sl } ∧ s.heap.get? b = some { cls := .type "tuple", dict := dd2, data := .seq js n2, slots := sl2 } ∧
        ∃ c, LexAt A.in1 s (decide (is.size < js.size)) (is.toList.zip js.toList) c ∧ R (.ok (.ret (.bool c))) s) :=
  .of_wp fun prog w A R s h => by
    obtain ⟨hp, g, d, tk, os⟩ := s; obtain ⟨hl, hb, c, hc, h⟩ := h
    have f2 := AutoSeq1.sub_tuple_tuple
    wp_walk using wpAny_loadPart' hl, wpAny_loadPart' hb, wpAny_forIn_list _ (fun rest b s' => b.1 = none ∧ s' = ⟨hp, g, d, tk, os⟩ ∧ LexAt A.in1 ⟨hp, g, d, tk, os⟩ (decide (is.size < js.size)) rest c) _
    case turn =>
      rintro ⟨y, x⟩ rest b s' ⟨hb', rfl, hx⟩
      cases hx with
      | eq e r =>
        refine wpAny_bind (e prog w _ _ ?_)
        wp_walk
        exact ⟨rfl, rfl, r⟩
      | ne e k =>
        refine wpAny_bind (e prog w _ _ ?_)
        have k' : ∀ {E : Value → Shared → Prop} {Q : Value → Shared → Prop}, Q (.bool c) ⟨hp, g, d, tk, os⟩ → wpAny (model prog w) A.in1 (richCompare .Lt y x) Q E ⟨hp, g, d, tk, os⟩ := fun h => k prog w _ _ h
        wp_walk using k'
        exact ⟨_, rfl, h⟩
    case fin =>
      rintro ⟨b1, b2⟩ s' ⟨hb', rfl, hx⟩
      simp only at hb'
      subst hb'
      cases hx
      wp_walk
      exact ⟨_, rfl, by simpa [Builtin.Tuple.tupleCompareSizes] using h⟩
    case h =>
      exact ⟨rfl, rfl, hc⟩
theorem LtAt.tuples {A : Around} {s : Shared} {l b : Addr} {is js : Array Value} {c : Bool} (hl : s.heap.IsTuple l is) (hb : s.heap.IsTuple b js) (hu : A.units < cLine)
    (he : LexAt A.in1 s (decide (is.size < js.size)) (is.toList.zip js.toList) c) : LtAt A s (.ref l) (.ref b) c := fun prog w E Q h => by
  obtain ⟨⟨cls, dd, data, sl⟩, ho, hc, n, hd⟩ := id hl
  obtain ⟨⟨cls2, dd2, data2, sl2⟩, ho2, hc2, n2, hd2⟩ := id hb
  simp only at hc hd hc2 hd2
  subst hc hd hc2 hd2
  exact richCompare_meets_room (op := .Lt) ⟨_, ho, rfl⟩ ⟨_, ho2, rfl⟩ F.slot_tuple_lt F.entry_tuple_lt (F.args_tuple_lt_2 _ _) (tup_lt l b is js n n2 dd dd2 sl sl2)
    ⟨ho, ho2, c, he, show Value.bool c ≠ Value.notImplemented ∧ Q (.bool c) s from ⟨(fun x => nomatch x), h⟩⟩ hu
end Srt
set_option maxRecDepth 100000
set_option maxHeartbeats 4000000
namespace Srt
open PySem PyProof.Rows
def midH (h : Heap) (a : Addr) (vs : List Value) : Heap := ((h.update a (Obj.mapSeq fun _ => #[])).push (seqObj "tuple" vs.toArray 0)).push (seqObj "list" #[] 0)
section
variable {prog : Program} {w : World} {A : Around} {E : Value → Shared → Prop} {s : Shared} {κ : SortKind} {G : Value → Prop} {lt : Value → Value → Bool}
theorem srt_plain {a : Addr} {vs : List Value} {n : Nat} {P : PySem.Fin → Shared → Prop} (ho : s.heap.get? a = some (seqObj "list" vs.toArray n)) (hz : vs.length ≤ sizeLine)
    (hkind : 2 ≤ vs.length → ∀ Q : SortKind → Shared → Prop, Q κ { s with heap := midH s.heap a vs } → wpAny (model prog w) A (keyKind' vs.toArray) Q E { s with heap := midH s.heap a vs })
    (C : 2 ≤ vs.length → Cmp prog w A { s with heap := midH s.heap a vs } κ G lt) (g : ∀ v ∈ vs, G v)
    (h : ∀ out : List Value, out.Perm vs → out.Pairwise (fun x y => lt y x = false) → P (.done (.ret .none)) { s with heap := sortedHeap s.heap a vs out.toArray }) :
    wpAny (model prog w) A (Builtin.«list.sort» ⟨[.ref a], []⟩) P E s := by
  rw [list_sort_plain]
  have ha : a < s.heap.objs.size := Heap.lt_size ho
  refine wpAny_bind (listItems_at ho rfl ?_)
  refine wpAny_bind (listUpdate_at ho rfl ?_ (by simpa using hz) (by simp))
  obtain ⟨e1, ho1⟩ : ∃ e1, (s.heap.update a (Obj.mapSeq fun _ => #[])).get? a = some (seqObj "list" #[] e1) := ⟨_, get?_update_seq ho (fun _ => #[])⟩
  refine wpAny_bind (seqEpoch_at ho1 rfl ?_)
  refine wpAny_bind (wpAny_newTuple ?_)
  refine wpAny_bind (wpAny_newList ?_)
  refine wpAny_holding ?_
  have ho6 : (midH s.heap a vs).get? a = some (seqObj "list" #[] e1) := by
    unfold midH
    rw [Heap.get?_push_ne _ _ _ (by rw [size_push', Heap.size_update]; exact Nat.ne_of_lt (Nat.lt_succ_of_lt ha)), Heap.get?_push_ne _ _ _ (by rw [Heap.size_update]; exact Nat.ne_of_lt ha)]
    exact ho1
  show wpAny (model prog w) A _ P E { s with heap := midH s.heap a vs }
  dsimp only
  have hsz : vs.toArray.size = vs.length := by simp
  by_cases h2 : vs.toArray.size < 2
  · rw [if_pos h2, if_pos h2]
    refine wpAny_bind (wpAny_pure ?_)
    rw [StateT.run_pure]
    refine wpAny_bind (wpAny_pure ?_)
    dsimp only
    refine wpAny_bind (seqEpoch_at ho6 rfl ?_)
    have ez : (Array.map (fun x : Keyed => x.2) (vs.toArray.zip vs.toArray)) = vs.toArray := by
      apply Array.ext'
      simp [List.map_snd_zip]
    refine wpAny_bind (listUpdate_at ho6 rfl ?_ (by simp) (by show (Array.map (fun x : Keyed => x.2) (vs.toArray.zip vs.toArray)).size ≤ _; rw [ez, hsz]; lia))
    simp only [bne_self_eq_false, Bool.false_eq_true, if_false]
    refine wpAny_pure ?_
    show P _ { s with heap := sortedHeap s.heap a vs (Array.map (fun x : Keyed => x.2) (vs.toArray.zip vs.toArray)) }
    rw [ez]
    refine h vs (.refl _) ?_
    match vs, hsz, h2 with
    | [], _, _ => exact .nil
    | [_], _, _ => exact List.pairwise_singleton _ _
    | _ :: _ :: _, _, h2 => simp at h2; lia
  · rw [if_neg h2, if_neg h2]
    have h2' : 2 ≤ vs.length := by lia
    refine wpAny_bind (hkind h2' _ ?_)
    have gp : ∀ p ∈ (vs.toArray.zip vs.toArray).toList, G p.1 := fun p hp => by
      have : p ∈ vs.zip vs := by simpa using hp
      exact g _ (mem_zip_self this).2
    refine wpAny_bind (wpAny_mono (wpS_runs (a₀ := vs.toArray.zip vs.toArray) (st := SortSt.mk' κ (vs.toArray.zip vs.toArray) #[] 7 none)
      (Q := fun _ st' => failedOf st' = none ∧ (arrOf st').Perm (vs.toArray.zip vs.toArray) ∧ (arrOf st').toList.Pairwise (le lt)) (C h2') gp rfl rfl rfl rfl fun st' a1 a2 a3 => ⟨a1, a2, a3⟩) ?_ fun _ _ e => e)
    rintro ⟨⟨⟩, st'⟩ s' ⟨rfl, hf, hp, hs⟩
    dsimp only
    have hl : (arrOf st').toList.Perm (vs.zip vs) := by
      have := Array.perm_iff_toList_perm.mp hp
      simpa using this
    have e2 : (arrOf st').map (·.2) = ((arrOf st').toList.map (·.1)).toArray := by
      apply Array.ext'
      rw [Array.toList_map]
      exact List.map_congr_left fun p hp' => ((mem_zip_self (hl.mem_iff.mp hp')).1).symm
    have hp2 : ((arrOf st').toList.map (·.1)).Perm vs := by
      have := hl.map (·.1)
      rwa [List.map_fst_zip (Nat.le_refl _)] at this
    refine wpAny_bind (seqEpoch_at ho6 rfl ?_)
    refine wpAny_bind (listUpdate_at ho6 rfl ?_ (by simp) (by show (Array.map (fun x : Keyed => x.2) (arrOf st')).size ≤ _; rw [e2, List.size_toArray, hp2.length_eq]; lia))
    rw [hf]
    simp only [bne_self_eq_false, Bool.false_eq_true, if_false]
    refine wpAny_pure ?_
    show P _ { s with heap := sortedHeap s.heap a vs ((arrOf st').map (·.2)) }
    rw [e2]
    exact h _ hp2 (List.pairwise_map.mpr hs)
def srtH (h : Heap) (vs : List Value) : Heap := ((h.push (seqObj "list" #[] 0)).update h.objs.size (Obj.mapSeq (· ++ vs.toArray))).push (seqObj "list" vs.toArray 0)
theorem srt_sorted {l : Addr} {vs : List Value} {Q : Value → Shared → Prop} (hl : s.heap.IsList l vs.toArray) (hz : vs.length ≤ sizeLine)
    (hkind : 2 ≤ vs.length → ∀ Q : SortKind → Shared → Prop, Q κ { s with heap := midH (srtH s.heap vs) (s.heap.objs.size + 1) vs } → wpAny (model prog w) A.in1.in1 (keyKind' vs.toArray) Q E { s with heap := midH (srtH s.heap vs) (s.heap.objs.size + 1) vs })
    (C : 2 ≤ vs.length → Cmp prog w A.in1.in1 { s with heap := midH (srtH s.heap vs) (s.heap.objs.size + 1) vs } κ G lt) (g : ∀ v ∈ vs, G v)
    (h : ∀ out : List Value, out.Perm vs → out.Pairwise (fun x y => lt y x = false) → Q (.ref (s.heap.objs.size + 1)) { s with heap := sortedAll s.heap vs out.toArray }) :
    wpAny (model prog w) A (call (.builtin "sorted") [.ref l]) Q E s := by
  refine Calls.call_function_entry kind_sorted plain_sorted entry_sorted (args_sorted1 _) ?_
  unfold Builtin.«sorted»
  refine wpAny_bind (m := checkCount "sorted" 1 1 _) (wpAny_pure ?_)
  refine wpAny_bind (collect_list hl ?_ hz)
  refine wpAny_bind (wpAny_newList ?_)
  have hsz : ((s.heap.push (seqObj "list" #[] 0)).update s.heap.objs.size (Obj.mapSeq (· ++ vs.toArray))).objs.size = s.heap.objs.size + 1 := by
    rw [Heap.size_update, size_push']
  have hoL : (srtH s.heap vs).get? (s.heap.objs.size + 1) = some (seqObj "list" vs.toArray 0) := by
    unfold srtH
    rw [← hsz]; exact Heap.get?_push_size _ rfl
  show wpAny _ _ _ _ _ { s with heap := srtH s.heap vs }
  rw [hsz]
  refine wpAny_bind (wpAny_holding (wpAny_call_entry slot_list_sort ⟨_, hoL, rfl⟩ entry_list_sort (srt_plain (κ := κ) (G := G) (lt := lt) hoL hz hkind C g fun out a1 a2 => ⟨_, rfl, ?_⟩) (args_list_sort _)))
  exact wpAny_pure ⟨_, rfl, h out a1 a2⟩
end
end Srt
set_option maxRecDepth 100000
set_option maxHeartbeats 4000000
namespace Srt
open PySem PyProof.Rows
section
variable {prog : Program} {w : World} {A : Around} {E : Value → Shared → Prop} {s : Shared}
theorem key_loop {kS : Addr} {f : Value} {vs : List Value} {J : List Value → Shared → Prop} {body : Value → PUnit → Sem (ForInStep PUnit)} (hz : vs.length ≤ sizeLine)
    (hb : ∀ x ks (s : Shared) (C : Value → Shared → Prop), ks.length < vs.length → wpAny (model prog w) A (call f [x]) (fun k s' => (∃ e, s'.heap.get? kS = some (seqObj "list" (List.toArray ks) e)) ∧ C k { s' with heap := s'.heap.update kS (Obj.mapSeq (·.push k)) }) (fun _ _ => False) s →
      wpAny (model prog w) A (body x ⟨⟩) (fun r s' => r = .yield ⟨⟩ ∧ ∃ k, C k s') E s)
    (hstep : ∀ l v r, vs = l ++ v :: r → ∀ ks s', ks.length = l.length → J ks s' → wpAny (model prog w) A (call f [v]) (fun k s'' => (∃ e, s''.heap.get? kS = some (seqObj "list" (List.toArray ks) e)) ∧ J (ks ++ [k]) { s'' with heap := s''.heap.update kS (Obj.mapSeq (·.push k)) }) (fun _ _ => False) s') :
    ∀ (r l ks : List Value) (s : Shared), vs = l ++ r → ks.length = l.length → J ks s → wpAny (model prog w) A (forIn r PUnit.unit body) (fun _ s' => ∃ ks, ks.length = vs.length ∧ J ks s') E s
  | [], l, ks, s, h1, h2, h3 => by
    rw [List.forIn_nil]
    exact wpAny_pure ⟨ks, by rw [h2, h1]; simp, h3⟩
  | x :: r, l, ks, s, h1, h2, h3 => by
    rw [List.forIn_cons]
    refine wpAny_bind (wpAny_mono (hb x ks s (fun k s' => J (ks ++ [k]) s') (by rw [h1, h2]; simp) (hstep l x r h1 ks s h2 h3)) (fun q s' hq => ?_) fun _ _ x => x)
    obtain ⟨rfl, k, hk⟩ := hq
    show wpAny (model prog w) A (forIn r PUnit.unit body) _ E s'
    exact key_loop hz hb hstep r (l ++ [x]) (ks ++ [k]) s' (by rw [h1]; simp) (by simp [h2]) hk
theorem srt_tree {a : Addr} {f : Value} {vs : List Value} {n : Nat} {P : PySem.Fin → Shared → Prop} (ho : s.heap.get? a = some (seqObj "list" vs.toArray n)) (hz : vs.length ≤ sizeLine) (J : List Value → Shared → Prop)
    (h0 : J [] { s with heap := midH s.heap a vs })
    (hstep : ∀ l v r, vs = l ++ v :: r → ∀ ks s', ks.length = l.length → J ks s' → wpAny (model prog w) A (call f [v]) (fun k s'' => (∃ e, s''.heap.get? (s.heap.objs.size + 1) = some (seqObj "list" (List.toArray ks) e)) ∧ J (ks ++ [k]) { s'' with heap := s''.heap.update (s.heap.objs.size + 1) (Obj.mapSeq (·.push k)) }) (fun _ _ => False) s')
    (hfin : ∀ ks s', ks.length = vs.length → J ks s' → (∃ e, s'.heap.get? (s.heap.objs.size + 1) = some (seqObj "list" (List.toArray ks) e)) ∧ s'.heap.get? a = (midH s.heap a vs).get? a ∧
      ∃ κ G lt, (2 ≤ vs.length → ∀ (E : Value → Shared → Prop) (Q : SortKind → Shared → Prop), Q κ s' → wpAny (model prog w) A (keyKind' ks.toArray) Q E s') ∧ (2 ≤ vs.length → Cmp prog w A s' κ G lt) ∧ (∀ k ∈ ks, G k) ∧
        ∀ T : List (Value × Value), T.Perm (ks.zip vs) → T.Pairwise (le lt) → P (.done (.ret .none)) { s' with heap := (s'.heap.update (s.heap.objs.size + 1) (Obj.mapSeq fun _ => #[])).update a (Obj.mapSeq fun _ => (T.map (·.2)).toArray) }) :
    wpAny (model prog w) A (ksk_tree a f false) P E s := by
  have ha : a < s.heap.objs.size := Heap.lt_size ho
  obtain ⟨e1, ho1⟩ : ∃ e1, (s.heap.update a (Obj.mapSeq fun _ => (#[] : Array Value))).get? a = some (seqObj "list" #[] e1) := ⟨_, get?_update_seq ho fun _ => #[]⟩
  have hkS : ((s.heap.update a (Obj.mapSeq fun _ => (#[] : Array Value))).push (seqObj "tuple" vs.toArray 0)).objs.size = s.heap.objs.size + 1 := by rw [size_push', Heap.size_update]
  have ho6 : (midH s.heap a vs).get? a = some (seqObj "list" #[] e1) := by
    unfold midH
    rw [Heap.get?_push_ne _ _ _ (by rw [size_push', Heap.size_update]; exact Nat.ne_of_lt (Nat.lt_succ_of_lt ha)), Heap.get?_push_ne _ _ _ (by rw [Heap.size_update]; exact Nat.ne_of_lt ha)]
    exact ho1
  have hsz : vs.toArray.size = vs.length := by simp
  unfold ksk_tree
  refine wpAny_bind (listItems_at ho rfl ?_)
  refine wpAny_bind (listUpdate_at ho rfl ?_ (by simpa using hz) (Nat.zero_le _))
  refine wpAny_bind (seqEpoch_at ho1 rfl ?_)
  refine wpAny_bind (wpAny_newTuple ?_ (by simpa using hz))
  refine wpAny_bind (wpAny_newList ?_ (Nat.zero_le _))
  refine wpAny_holding ?_
  rw [hkS]
  show wpAny (model prog w) A (ksk_rest a f false vs.toArray e1 (.ref (s.heap.objs.size + 1))) P E { s with heap := midH s.heap a vs }
  unfold ksk_rest
  refine wpAny_bind (wpAny_rule ?_)
  rw [List.forIn_toArray]
  refine wpAny_bind (wpAny_mono (key_loop (vs := vs) (J := J) hz (fun x ks s' C hl hx => ?_) hstep vs [] [] _ rfl rfl h0) (fun _ s' hd => ?_) fun _ _ x => x)
  · refine wpAny_bind (wpAny_attempt (wpAny_mono hx (fun k s'' hk => ?_) fun _ _ hF => hF.elim))
    obtain ⟨⟨e, he⟩, hc⟩ := hk
    dsimp only
    refine wpAny_bind (listUpdate_at he rfl ?_ (by rw [List.size_toArray]; lia) (Nat.le_trans (Nat.le_of_eq (Array.size_push ..)) (by rw [List.size_toArray]; lia)))
    exact wpAny_pure ⟨rfl, k, hc⟩
  · obtain ⟨ks, hl, hJ⟩ := hd
    obtain ⟨⟨e, he⟩, hA, κ, G, lt, hkind, C, g, fin⟩ := hfin ks s' hl hJ
    rw [ho6] at hA
    refine wpAny_bind (listItems_at he rfl ?_)
    unfold ksk_end
    dsimp only
    rw [if_neg (by simp)]
    have hks : a ≠ s.heap.objs.size + 1 := Nat.ne_of_lt (Nat.lt_succ_of_lt ha)
    have tail : ∀ st' : SortSt, failedOf st' = none → (arrOf st').toList.Perm (ks.zip vs) → (arrOf st').toList.Pairwise (le lt) → wpAny (model prog w) A (ksk_tail a false e1 (.ref (s.heap.objs.size + 1)) st') P E s' := by
      intro st' hf hp hs
      unfold ksk_tail
      dsimp only
      have eo : (arrOf st').map (·.2) = ((arrOf st').toList.map (·.2)).toArray := by
        apply Array.ext'
        rw [Array.toList_map]
      rw [eo]
      have hlen : ((arrOf st').toList.map (·.2)).length = vs.length := by rw [List.length_map, hp.length_eq, List.length_zip, hl, Nat.min_self]
      refine wpAny_bind (listUpdate_at he rfl ?_ (by rw [List.size_toArray, hl]; exact hz) (Nat.zero_le _))
      refine wpAny_bind (wpAny_letGo ?_)
      have hA2 : (s'.heap.update (s.heap.objs.size + 1) (Obj.mapSeq fun _ => #[])).get? a = some (seqObj "list" #[] e1) := by
        rw [Heap.get?_update_ne _ _ _ _ hks]; exact hA
      refine wpAny_bind (seqEpoch_at hA2 rfl ?_)
      refine wpAny_bind (listUpdate_at hA2 rfl ?_ (Nat.zero_le _) (by simp only [Bool.false_eq_true, if_false]; rw [List.size_toArray, hlen]; lia))
      rw [hf]
      simp only [bne_self_eq_false, Bool.false_eq_true, if_false]
      exact wpAny_pure (fin _ hp hs)
    have ez : (ks.toArray.zip vs.toArray).toList = ks.zip vs := by simp
    by_cases h2 : vs.toArray.size < 2
    · rw [if_pos h2, if_pos h2]
      refine wpAny_bind (wpAny_pure ?_)
      rw [StateT.run_pure]
      refine wpAny_bind (wpAny_pure ?_)
      dsimp only
      refine tail _ rfl ?_ ?_
      · show (ks.toArray.zip vs.toArray).toList.Perm _
        rw [ez]
      · show (ks.toArray.zip vs.toArray).toList.Pairwise _
        rw [ez]
        have : (ks.zip vs).length < 2 := by rw [List.length_zip, hl, Nat.min_self]; lia
        match ks.zip vs, this with
        | [], _ => exact .nil
        | [_], _ => exact List.pairwise_singleton _ _
        | _ :: _ :: _, h => simp at h; lia
    · rw [if_neg h2, if_neg h2]
      have h2' : 2 ≤ vs.length := by lia
      refine wpAny_bind (hkind h2' _ _ ?_)
      have gp : ∀ p ∈ (ks.toArray.zip vs.toArray).toList, G p.1 := fun p hp => by
        rw [ez] at hp
        exact g _ (List.of_mem_zip hp).1
      refine wpAny_bind (wpAny_mono (wpS_runs (a₀ := ks.toArray.zip vs.toArray) (st := SortSt.mk' κ (ks.toArray.zip vs.toArray) #[] 7 none)
        (Q := fun _ st' => failedOf st' = none ∧ (arrOf st').Perm (ks.toArray.zip vs.toArray) ∧ (arrOf st').toList.Pairwise (le lt)) (C h2') gp rfl rfl rfl rfl fun st' a1 a2 a3 => ⟨a1, a2, a3⟩) ?_ fun _ _ e => e)
      rintro ⟨⟨⟩, st'⟩ s'' ⟨rfl, hf, hp, hs⟩
      dsimp only
      refine tail st' hf ?_ hs
      rw [← ez]
      exact Array.perm_iff_toList_perm.mp hp
theorem srt_sortedK {l fa : Addr} {vs : List Value} {Q : Value → Shared → Prop} (hl : s.heap.IsList l vs.toArray) (hz : vs.length ≤ sizeLine) (J : List Value → Shared → Prop)
    (h0 : J [] { s with heap := midH (srtH s.heap vs) (s.heap.objs.size + 1) vs })
    (hstep : ∀ l v r, vs = l ++ v :: r → ∀ ks s', ks.length = l.length → J ks s' → wpAny (model prog w) A.in1.in1 (call (.ref fa) [v]) (fun k s'' => (∃ e, s''.heap.get? (s.heap.objs.size + 3) = some (seqObj "list" (List.toArray ks) e)) ∧ J (ks ++ [k]) { s'' with heap := s''.heap.update (s.heap.objs.size + 3) (Obj.mapSeq (·.push k)) }) (fun _ _ => False) s')
    (hfin : ∀ ks s', ks.length = vs.length → J ks s' → (∃ e, s'.heap.get? (s.heap.objs.size + 3) = some (seqObj "list" (List.toArray ks) e)) ∧ s'.heap.get? (s.heap.objs.size + 1) = (midH (srtH s.heap vs) (s.heap.objs.size + 1) vs).get? (s.heap.objs.size + 1) ∧
      ∃ κ G lt, (2 ≤ vs.length → ∀ (E : Value → Shared → Prop) (Q : SortKind → Shared → Prop), Q κ s' → wpAny (model prog w) A.in1.in1 (keyKind' ks.toArray) Q E s') ∧ (2 ≤ vs.length → Cmp prog w A.in1.in1 s' κ G lt) ∧ (∀ k ∈ ks, G k) ∧
        ∀ T : List (Value × Value), T.Perm (ks.zip vs) → T.Pairwise (le lt) → Q (.ref (s.heap.objs.size + 1)) { s' with heap := (s'.heap.update (s.heap.objs.size + 3) (Obj.mapSeq fun _ => #[])).update (s.heap.objs.size + 1) (Obj.mapSeq fun _ => (T.map (·.2)).toArray) }) :
    wpAny (model prog w) A (call (.builtin "sorted") [.ref l] [(Str.ofString "key", .ref fa)]) Q E s := by
  refine call_function_entry_kw kind_sorted plain_sorted entry_sorted (ksk_s1 _ _) ?_
  unfold Builtin.«sorted»
  refine wpAny_bind (m := checkCount "sorted" 1 1 _) (wpAny_pure ?_)
  refine wpAny_bind (collect_list hl ?_ hz)
  refine wpAny_bind (wpAny_newList ?_ (by simpa using hz))
  have hsz : ((s.heap.push (seqObj "list" #[] 0)).update s.heap.objs.size (Obj.mapSeq (· ++ vs.toArray))).objs.size = s.heap.objs.size + 1 := by
    rw [Heap.size_update, size_push']
  have hsz2 : (srtH s.heap vs).objs.size = s.heap.objs.size + 2 := by unfold srtH; rw [size_push', hsz]
  have hoL : (srtH s.heap vs).get? (s.heap.objs.size + 1) = some (seqObj "list" vs.toArray 0) := by
    unfold srtH
    rw [← hsz]; exact Heap.get?_push_size _ rfl
  show wpAny _ _ _ _ _ { s with heap := srtH s.heap vs }
  rw [hsz]
  refine wpAny_bind (wpAny_holding (wpAny_call_entry_kw slot_list_sort ⟨_, hoL, rfl⟩ entry_list_sort ?_ (ksk_l1 _ _)))
  show wpAny (model prog w) A.in1.in1 (Builtin.«list.sort» ⟨[.ref (s.heap.objs.size + 1)], [(Str.ofString "key", .ref fa)]⟩) _ _ _
  rw [ksk_t1]
  refine srt_tree (s := { s with heap := srtH s.heap vs }) hoL hz J h0 ?_ ?_
  · show ∀ l v r, vs = l ++ v :: r → ∀ ks s', ks.length = l.length → J ks s' → wpAny (model prog w) A.in1.in1 (call (.ref fa) [v]) (fun k s'' => (∃ e, s''.heap.get? ((srtH s.heap vs).objs.size + 1) = some (seqObj "list" (List.toArray ks) e)) ∧ J (ks ++ [k]) { s'' with heap := s''.heap.update ((srtH s.heap vs).objs.size + 1) (Obj.mapSeq (·.push k)) }) (fun _ _ => False) s'
    rw [hsz2]
    exact hstep
  · intro ks s' h1 h2
    show (∃ e, s'.heap.get? ((srtH s.heap vs).objs.size + 1) = some (seqObj "list" (List.toArray ks) e)) ∧ s'.heap.get? (s.heap.objs.size + 1) = (midH (srtH s.heap vs) (s.heap.objs.size + 1) vs).get? (s.heap.objs.size + 1) ∧ _
    obtain ⟨b1, b2, κ, G, lt, b3, b4, b5, b6⟩ := hfin ks s' h1 h2
    rw [hsz2]
    exact ⟨b1, b2, κ, G, lt, b3, b4, b5, fun T t1 t2 => ⟨_, rfl, wpAny_pure ⟨_, rfl, b6 T t1 t2⟩⟩⟩
end
end Srt
set_option maxRecDepth 100000
set_option maxHeartbeats 4000000
namespace DL
open PySem PySem.Spec PyProof.Rows L2 Srt
variable [Lam]
theorem sh_all : ∀ n, (∀ d e : D, sizeOf d < n → shD d e = true → okE d e = true ∧ eqD d e = (!ltT d e && !ltT e d)) ∧ (∀ ds es : List D, sizeOf ds < n → shL ds es = true → okEL ds es = true ∧ eqL ds es = (!ltTL ds es && !ltTL es ds)) := by
  intro n
  induction n with
  | zero => exact ⟨fun d e h => absurd h (Nat.not_lt_zero _), fun d e h => absurd h (Nat.not_lt_zero _)⟩
  | succ n ih =>
    refine ⟨fun d e hn h => ?_, fun ds es hn h => ?_⟩
    · cases d <;> cases e <;> simp only [shD] at h <;> first | (cases h; done) | skip
      · refine ⟨by simp [okE, flat, flD], ?_⟩
        rw [ltT_int, ltT_int]
        simp only [eqD, eqF]
        rename_i i j
        by_cases e1 : i = j
        · subst e1; simp
        · have : (i == j) = false := by simpa using e1
          rw [this]
          by_cases e2 : i < j
          · simp [e2]
          · have e3 : j < i := by lia
            simp [e3]
      · rw [ltT_tup, ltT_tup]
        simp only [okE, eqD]
        exact ih.2 _ _ (by simp at hn; lia) h
    · cases ds with
      | nil => cases es <;> simp [okEL, eqL, ltTL_nil, ltTL_nil']
      | cons d ds =>
        cases es with
        | nil => simp [okEL, eqL, ltTL_nil, ltTL_nil']
        | cons e es =>
          simp only [shL, Bool.and_eq_true] at h
          obtain ⟨a1, a2⟩ := ih.1 d e (by simp at hn; lia) h.1
          obtain ⟨b1, b2⟩ := ih.2 ds es (by simp at hn; lia) h.2
          refine ⟨by simp only [okEL, a1, b1, Bool.and_true], ?_⟩
          rw [ltTL_cons, ltTL_cons]
          simp only [eqL, a2, b2]
          cases e1 : ltT d e <;> cases e2 : ltT e d <;> simp
theorem sh_ok {d e : D} (h : shD d e = true) : okE d e = true := ((sh_all (sizeOf d + 1)).1 d e (Nat.lt_succ_self _) h).1
theorem sh_eq {d e : D} (h : shD d e = true) : eqD d e = (!ltT d e && !ltT e d) := ((sh_all (sizeOf d + 1)).1 d e (Nat.lt_succ_self _) h).2
section
variable {X : Cx} {pins : List (Addr × Obj)} {σ : St} {F H : Hp} {s : Shared}
theorem lexAt_D {A : Around} (I : Inv X pins σ H s) (fh : Same F H) (f : Bool) : ∀ {ds es : List D} {xs ys : List V} {us vs : List Value}, (∀ d ∈ ds, ∀ e x y u v, shD d e = true → A.units + depD d < cLine → Rep X.K F d x → Rep X.K F e y → RelV x u → RelV y v → LtAt A s u v (ltT d e)) →
    shL ds es = true → A.units + depL ds < cLine → RepL X.K F ds xs → RepL X.K F es ys → Vals xs us → Vals ys vs → f = decide (ds.length < es.length) → LexAt A s f (us.zip vs) (ltTL ds es)
  | [], es, xs, ys, us, vs, _, _, _, k1, k2, w1, w2, hf => by
    cases k1.nil_inv
    cases w1
    cases es with
    | nil => rw [ltTL_nil]; simp only [List.zip_nil_left]; rw [show false = f by rw [hf]; simp]; exact .nil
    | cons e es => rw [ltTL_nil']; simp only [List.zip_nil_left]; rw [show true = f by rw [hf]; simp]; exact .nil
  | d :: ds, [], xs, ys, us, vs, _, _, _, k1, k2, w1, w2, hf => by
    cases k2.nil_inv
    cases w2
    rw [ltTL_nil]; simp only [List.zip_nil_right]; rw [show false = f by rw [hf]; simp]; exact .nil
  | d :: ds, e :: es, xs, ys, us, vs, ih, hs, hu, k1, k2, w1, w2, hf => by
    obtain ⟨x, r, rfl, a1, a2⟩ := k1.cons_inv
    obtain ⟨y, r', rfl, b1, b2⟩ := k2.cons_inv
    cases w1 with
    | cons p1 p2 =>
      cases w2 with
      | cons p3 p4 =>
        simp only [shL, Bool.and_eq_true] at hs
        simp only [depL] at hu
        rw [List.zip_cons_cons]
        have he := eqAt_D I fh A (sh_ok hs.1) (by lia) a1 b1 p1 p3
        have hl := ih d List.mem_cons_self e x y _ _ hs.1 (by lia) a1 b1 p1 p3
        rw [sh_eq hs.1] at he
        rw [ltTL_cons]
        cases e1 : ltT d e
        · cases e2 : ltT e d
          · rw [e1, e2] at he
            simp only [Bool.false_or, Bool.not_false, Bool.true_and]
            exact .eq he (lexAt_D I fh f (fun d' hd' => ih d' (List.mem_cons_of_mem _ hd')) hs.2 (by lia) a2 b2 p2 p4 (by rw [hf]; simp))
          · rw [e1, e2] at he
            rw [e1] at hl
            exact .ne he hl
        · rw [e1] at he hl
          exact .ne he hl
theorem ltAt_D (I : Inv X pins σ H s) (fh : Same F H) : ∀ {d e : D} {x y : V} {u v : Value} (A : Around), shD d e = true → A.units + depD d < cLine → Rep X.K F d x → Rep X.K F e y → RelV x u → RelV y v → LtAt A s u v (ltT d e) := by
  suffices hh : ∀ n, (∀ d e x y u v (A : Around), sizeOf d < n → shD d e = true → A.units + depD d < cLine → Rep X.K F d x → Rep X.K F e y → RelV x u → RelV y v → LtAt A s u v (ltT d e)) from
    fun {d e x y u v} A => hh (sizeOf d + 1) d e x y u v A (Nat.lt_succ_self _)
  intro n
  induction n with
  | zero => intro d e x y u v A h; exact absurd h (Nat.not_lt_zero _)
  | succ n ih =>
    intro d e x y u v A hn hs hu r1 r2 q1 q2
    cases d <;> cases e <;> simp only [shD] at hs <;> first | (cases hs; done) | skip
    · cases rep_int.mp r1
      cases rep_int.mp r2
      obtain ⟨t, rfl⟩ := q1
      obtain ⟨t', rfl⟩ := q2
      rw [ltT_int]
      intro prog w E Q h
      exact lt_int h
    · rename_i ds es
      obtain ⟨a, xs, rfl, k1, k2⟩ := rep_tup.mp r1
      obtain ⟨b, ys, rfl, k3, k4⟩ := rep_tup.mp r2
      cases q1
      cases q2
      obtain ⟨i1, v1, t1, _⟩ := I.tuple (same_seqT fh k1)
      obtain ⟨i2, v2, t2, _⟩ := I.tuple (same_seqT fh k3)
      simp only [depD] at hu
      rw [ltT_tup]
      refine LtAt.tuples (show s.heap.IsTuple a i1.toArray from t1) (show s.heap.IsTuple b i2.toArray from t2) (by lia) ?_
      refine lexAt_D I fh _ (fun d hd e x y u v s1 s2 s3 s4 s5 s6 => ih d e x y u v A.in1 ?_ s1 s2 s3 s4 s5 s6) hs (by show A.units + 1 + depL ds < cLine; lia) k2 k4 v1 v2 ?_
      · have := List.sizeOf_lt_of_mem hd
        simp at hn; lia
      · rw [List.size_toArray, List.size_toArray, ← v1.length, ← v2.length, ← k2.length, ← k4.length]
theorem rep_uniq (I : Inv X pins σ H s) (fh : Same F H) : ∀ {d e : D} {x : V}, kD d = true → kD e = true → Rep X.K F d x → Rep X.K F e x → d = e := by
  suffices hh : ∀ n, (∀ d e x, sizeOf d < n → kD d = true → kD e = true → Rep X.K F d x → Rep X.K F e x → d = e) from fun {d e x} => hh (sizeOf d + 1) d e x (Nat.lt_succ_self _)
  intro n
  induction n with
  | zero => intro d e x h; exact absurd h (Nat.not_lt_zero _)
  | succ n ih =>
    intro d e x hn kd ke r1 r2
    cases d <;> simp only [kD] at kd <;> first | (cases kd; done) | skip
    all_goals (cases e <;> simp only [kD] at ke <;> first | (cases ke; done) | skip)
    · cases rep_int.mp r1
      cases rep_int.mp r2
      rfl
    · cases rep_int.mp r1
      obtain ⟨_, _, z, _⟩ := rep_tup.mp r2
      cases z
    · obtain ⟨_, _, z, _⟩ := rep_tup.mp r1
      cases rep_int.mp r2
      cases z
    · rename_i ds es
      obtain ⟨a, xs, rfl, k1, k2⟩ := rep_tup.mp r1
      obtain ⟨b, ys, z, k3, k4⟩ := rep_tup.mp r2
      cases z
      cases I.tuple_inj (same_seqT fh k1) (same_seqT fh k3)
      have seq : ∀ (ds es : List D) (xs : List V), sizeOf ds < n → kDL ds = true → kDL es = true → RepL X.K F ds xs → RepL X.K F es xs → ds = es := by
        intro ds
        induction ds with
        | nil =>
          intro es xs _ _ _ k1 k2
          cases k1.nil_inv
          cases es with
          | nil => rfl
          | cons e es => obtain ⟨_, _, z, _⟩ := k2.cons_inv; cases z
        | cons d ds ihd =>
          intro es xs hs h1 h2 k1 k2
          obtain ⟨x, r, rfl, a1, a2⟩ := k1.cons_inv
          cases es with
          | nil => cases k2.nil_inv
          | cons e es =>
            obtain ⟨x', r', z, b1, b2⟩ := k2.cons_inv
            cases z
            simp only [kDL, Bool.and_eq_true] at h1 h2
            rw [ih d e x (by simp at hs; lia) h1.1 h2.1 a1 b1, ihd es r (by simp at hs; lia) h1.2 h2.2 a2 b2]
      rw [seq ds es xs (by simp at hn; lia) kd ke k2 k4]
theorem relV_uniq {d e : D} {x y : V} {u : Value} {K : Frag} (kd : kD d = true) (ke : kD e = true) (r1 : Rep K F d x) (r2 : Rep K F e y) (q1 : RelV x u) (q2 : RelV y u) : x = y := by
  cases d <;> simp only [kD] at kd <;> first | (cases kd; done) | skip
  all_goals (cases e <;> simp only [kD] at ke <;> first | (cases ke; done) | skip)
  · cases rep_int.mp r1
    cases rep_int.mp r2
    obtain ⟨t, rfl⟩ := q1
    obtain ⟨t', z⟩ := q2
    cases z
    rfl
  · cases rep_int.mp r1
    obtain ⟨_, _, rfl, _⟩ := rep_tup.mp r2
    obtain ⟨t, rfl⟩ := q1
    cases q2
  · obtain ⟨_, _, rfl, _⟩ := rep_tup.mp r1
    cases rep_int.mp r2
    cases q1
    obtain ⟨t', z⟩ := q2
    cases z
  · obtain ⟨_, _, rfl, _⟩ := rep_tup.mp r1
    obtain ⟨_, _, rfl, _⟩ := rep_tup.mp r2
    cases q1
    cases q2
    rfl
def Stands (K : Frag) (F : Hp) (d : D) (u : Value) : Prop := kD d = true ∧ ∃ x, Rep K F d x ∧ RelV x u
open Classical in
noncomputable def keyOf (K : Frag) (F : Hp) (u : Value) : D := if h : ∃ d, Stands K F d u then Classical.choose h else .non
theorem keyOf_eq (I : Inv X pins σ H s) (fh : Same F H) {d : D} {u : Value} (h : Stands X.K F d u) : keyOf X.K F u = d := by
  unfold keyOf
  rw [dif_pos ⟨d, h⟩]
  obtain ⟨k1, x, a1, a2⟩ := Classical.choose_spec (⟨d, h⟩ : ∃ d, Stands X.K F d u)
  obtain ⟨k2, y, b1, b2⟩ := h
  obtain rfl := relV_uniq k1 k2 a1 b1 a2 b2
  exact rep_uniq I fh k1 k2 a1 b1
theorem perm_lift {α β : Type} (f : α → β) {l : List β} {m : List β} (p : l.Perm m) : ∀ {L : List α}, m = L.map f → ∃ L' : List α, L'.Perm L ∧ l = L'.map f := by
  induction p with
  | nil => intro L h; cases L with
    | nil => exact ⟨[], .refl _, rfl⟩
    | cons a L => cases h
  | cons x p ih =>
    intro L h
    cases L with
    | nil => cases h
    | cons a L =>
      rw [List.map_cons] at h
      injection h with h1 h2
      obtain ⟨L', p', e⟩ := ih h2
      exact ⟨a :: L', p'.cons a, by rw [List.map_cons, ← e, h1]⟩
  | swap x y r =>
    intro L h
    match L, h with
    | [], h => cases h
    | [a], h => injection h with h1 h2; cases h2
    | a :: b :: L, h =>
      rw [List.map_cons, List.map_cons] at h
      injection h with h1 h2
      injection h2 with h2 h3
      exact ⟨b :: a :: L, .swap a b L, by rw [List.map_cons, List.map_cons, ← h1, ← h2, ← h3]⟩
  | trans p q ih1 ih2 =>
    intro L h
    obtain ⟨L2, p2, e2⟩ := ih2 h
    obtain ⟨L1, p1, e1⟩ := ih1 e2
    exact ⟨L1, p1.trans p2, e1⟩
end
end DL
set_option maxRecDepth 100000
set_option maxHeartbeats 4000000
namespace DL
open PySem PySem.Spec PyProof.Rows L2 Srt PySem.W
variable [Lam]
def isI : D → Bool
  | .int _ => true
  | _ => false
def headI : D → Bool
  | .tup (.int _ :: _) => true
  | _ => false
def srtOk (ks : List D) : Bool := ks.all kD && (ks.all fun d => ks.all fun e => shD d e) && (ks.all isI || (ks.all headI && ks.all fun d => decide (depD d ≤ 50)))
section
variable {X : Cx} {pins : List (Addr × Obj)} {σ : St} {F H : Hp} {s : Shared}
theorem katLex_of {prog : Program} {w : World} {A : Around} {f c : Bool} {Q : Bool → Shared → Prop} {l : List (Value × Value)} (h : LexAt A s f l c) : ∀ i, 1 ≤ i → Q c s → KatLex prog w A true f Q l i s := by
  induction h with
  | nil => intro i _ q; exact kat_nil q
  | eq e _ ih => intro i hi q; exact kat_cons (e prog w _ _ (kat_yes (ih (i + 1) (by lia) q)))
  | ne e k =>
    intro i hi q
    refine kat_cons (e prog w _ _ (kat_no ?_))
    have : (true && i == 0) = false := by simp; lia
    rw [this]
    exact kat_one _ _ (k prog w _ _ q)
theorem katTups_of {h : Heap} : ∀ {vs : List Value}, (∀ v ∈ vs, ∃ a o xs n i t, v = .ref a ∧ h.get? a = some o ∧ o.cls = .type "tuple" ∧ o.data = .seq xs n ∧ xs[0]? = some (Value.int i t)) →
    ∃ fs : List Value, KatTups h vs fs ∧ fs.length = vs.length ∧ ∀ v ∈ fs, ∃ i t, v = Value.int i t
  | [], _ => ⟨[], .nil, rfl, fun v hv => by cases hv⟩
  | v :: vs, hh => by
    obtain ⟨a, o, xs, n, i, t, rfl, h1, h2, h3, h4⟩ := hh v List.mem_cons_self
    obtain ⟨fs, k1, k2, k3⟩ := katTups_of fun v hv => hh v (List.mem_cons_of_mem _ hv)
    refine ⟨.int i t :: fs, .cons h1 h2 h3 h4 k1, by simp [k2], fun v hv => ?_⟩
    rcases List.mem_cons.mp hv with rfl | hv
    · exact ⟨i, t, rfl⟩
    · exact k3 v hv
theorem cmp_D (I : Inv X pins σ H s) (fh : Same F H) (A : Around) (hu : A.units + 60 < cLine) {us : List Value} {ks : List D} (st : ∀ u ∈ us, ∃ d ∈ ks, Stands X.K F d u) (ok : srtOk ks = true) :
    ∃ κ, (2 ≤ us.length → ∀ (E : Value → Shared → Prop) (Q : SortKind → Shared → Prop), Q κ s → wpAny (model X.prog X.w) A (keyKind' us.toArray) Q E s) ∧
      Cmp X.prog X.w A s κ (fun u => u ∈ us) (fun u v => ltT (keyOf X.K F u) (keyOf X.K F v)) := by
  unfold srtOk at ok
  rw [Bool.and_eq_true, Bool.and_eq_true, Bool.or_eq_true, Bool.and_eq_true] at ok
  obtain ⟨⟨_, o2⟩, o3⟩ := ok
  have sh : ∀ d ∈ ks, ∀ e ∈ ks, shD d e = true := fun d hd e he => List.all_eq_true.mp (List.all_eq_true.mp o2 d hd) e he
  rcases o3 with o3 | ⟨o3, o4⟩
  · have hin : ∀ u ∈ us, ∃ n t, u = Value.int n t ∧ keyOf X.K F u = .int n := fun u hu => by
      obtain ⟨d, hd, hs⟩ := st u hu
      have hk := keyOf_eq I fh hs
      have := List.all_eq_true.mp o3 d hd
      cases d <;> simp only [isI] at this <;> first | (cases this; done) | skip
      obtain ⟨_, x, r, q⟩ := hs
      cases rep_int.mp r
      obtain ⟨t, rfl⟩ := q
      exact ⟨_, t, rfl, hk⟩
    refine ⟨oneType', fun h2 E Q q => ?_, ⟨fun x y gx gy Q q => ?_, fun x y h => lt_asy h, fun x y z h k => lt_tra h k⟩⟩
    · match us, h2, hin with
      | v₁ :: v₂ :: vs, _, hin =>
        rw [keyKind_ints (intsAre_map _ fun v hv => let ⟨n, t, e, _⟩ := hin v hv; ⟨n, t, e⟩)]
        exact wpAny_pure q
    · obtain ⟨n, t, rfl, e1⟩ := hin x gx
      obtain ⟨m, t', rfl, e2⟩ := hin y gy
      rw [e1, e2, ltT_int] at q
      exact kat_lt_int q
  · have tups : ∀ u ∈ us, ∃ d ∈ ks, Stands X.K F d u ∧ keyOf X.K F u = d ∧ depD d ≤ 50 ∧ ∃ i ds, d = .tup (.int i :: ds) := fun u hu => by
      obtain ⟨d, hd, hs⟩ := st u hu
      have hk := keyOf_eq I fh hs
      have := List.all_eq_true.mp o3 d hd
      have h4 := of_decide_eq_true (List.all_eq_true.mp o4 d hd)
      unfold headI at this
      split at this
      · exact ⟨_, hd, hs, hk, h4, _, _, rfl⟩
      · cases this
    refine ⟨tuples' true, fun h2 E Q q => ?_, ⟨fun x y gx gy Q q => ?_, fun x y h => lt_asy h, fun x y z h k => lt_tra h k⟩⟩
    · obtain ⟨fs, k1, k2, k3⟩ := katTups_of (h := s.heap) (vs := us) fun v hv => by
        obtain ⟨d, _, ⟨_, x, r, qx⟩, _, _, i, ds, rfl⟩ := tups v hv
        obtain ⟨a, xs, rfl, q1, q2⟩ := rep_tup.mp r
        cases qx
        obtain ⟨x0, r0, rfl, z1, z2⟩ := q2.cons_inv
        cases rep_int.mp z1
        obtain ⟨its, r1, ⟨o, ho, hc, n, hd⟩, _⟩ := I.tuple (same_seqT fh q1)
        cases r1 with
        | cons p1 p2 =>
          obtain ⟨t, rfl⟩ := p1
          exact ⟨a, o, _, n, i, t, rfl, ho, hc, hd, by simp⟩
      refine kat_kind (T := .type "int") k1 (by lia) (fun v hv => ?_) (by rfl) q
      obtain ⟨i, t, rfl⟩ := k3 v hv
      exact Looks.of_pure rfl
    · obtain ⟨d, hd, ⟨_, x', r, qx⟩, e1, dp, i, ds, rfl⟩ := tups x gx
      obtain ⟨e, he, ⟨_, y', r', qy⟩, e2, dp', j, es, rfl⟩ := tups y gy
      rw [e1, e2] at q
      have hs := sh _ hd _ he
      obtain ⟨a, xs, rfl, q1, q2⟩ := rep_tup.mp r
      obtain ⟨b, ys, rfl, q3, q4⟩ := rep_tup.mp r'
      cases qx
      cases qy
      obtain ⟨x0, r0, rfl, z1, z2⟩ := q2.cons_inv
      obtain ⟨y0, w0, rfl, z3, z4⟩ := q4.cons_inv
      have z1' := z1
      have z3' := z3
      cases rep_int.mp z1
      cases rep_int.mp z3
      obtain ⟨its, r1, ⟨o, ho, hc, n, hdt⟩, _⟩ := I.tuple (same_seqT fh q1)
      obtain ⟨its2, r2, ⟨o2, ho2, hc2, n2, hdt2⟩, _⟩ := I.tuple (same_seqT fh q3)
      have l1 := r1.length
      have l2 := r2.length
      have m1 := q2.length
      have m2 := q4.length
      cases r1 with
      | cons p1 p2 =>
        cases r2 with
        | cons p3 p4 =>
          have hp1 := p1
          have hp3 := p3
          obtain ⟨t, rfl⟩ := p1
          obtain ⟨t', rfl⟩ := p3
          simp only [shD, shL, Bool.and_eq_true] at hs
          simp only [depD, depL] at dp
          refine kat_lt ho hdt ho2 hdt2 ?_
          rw [ltT_tup, ltTL_cons] at q
          have hE := eqAt_D I fh A (d := .int i) (e := .int j) (by simp [okE, flat, flD]) (by simp only [depD]; lia) z1' z3' hp1 hp3
          rw [sh_eq (by simp only [shD])] at hE
          simp only [List.zip_cons_cons]
          have lex := lexAt_D I fh (A := A) (decide (ds.length < es.length)) (fun d _ e x y u v s1 s2 s3 s4 s5 s6 => ltAt_D I fh A s1 s2 s3 s4 s5 s6) hs.2 (by lia) z2 z4 p2 p4 rfl
          have ef : ∀ {m1 m2 : List Value}, Paired RelV r0 m1 → Paired RelV w0 m2 → decide ((Value.int i t :: m1).toArray.size < (Value.int j t' :: m2).toArray.size) = decide (ds.length < es.length) := fun a3 a4 => by
            simp only [List.size_toArray, List.length_cons]
            rw [← Paired.length a3, ← Paired.length a4, ← z2.length, ← z4.length]
            simp
          rw [ef p2 p4]
          cases c1 : ltT (.int i) (.int j)
          · cases c2 : ltT (.int j) (.int i)
            · rw [c1, c2] at hE q
              simp only [Bool.false_or, Bool.not_false, Bool.true_and] at q
              exact kat_cons (hE X.prog X.w _ _ (kat_yes (katLex_of lex 1 (Nat.le_refl _) q)))
            · rw [c1, c2] at hE q
              refine kat_cons (hE X.prog X.w _ _ (kat_no ?_))
              have c1' : decide (i < j) = false := by rw [← ltT_int]; exact c1
              refine oneLt_int ?_
              rw [c1']
              exact q
          · rw [c1] at hE q
            refine kat_cons (hE X.prog X.w _ _ (kat_no ?_))
            have c1' : decide (i < j) = true := by rw [← ltT_int]; exact c1
            refine oneLt_int ?_
            rw [c1']
            exact q
theorem row3 {K : Frag} : ∀ {ds : List D} {ys : List V} {its : List Value}, RepL K F ds ys → Vals ys its → ∃ T : List (V × Value × D), T.map (·.1) = ys ∧ T.map (·.2.1) = its ∧ T.map (·.2.2) = ds ∧ ∀ t ∈ T, Rep K F t.2.2 t.1 ∧ RelV t.1 t.2.1
  | [], ys, its, k2, r1 => by
    cases k2.nil_inv
    cases r1
    exact ⟨[], rfl, rfl, rfl, fun t ht => by cases ht⟩
  | d :: ds, ys, its, k2, r1 => by
    obtain ⟨x, r, rfl, a1, a2⟩ := k2.cons_inv
    cases r1 with
    | cons b1 b2 =>
      rename_i u' us'
      obtain ⟨T, t1, t2, t3, t4⟩ := row3 a2 b2
      refine ⟨(x, u', d) :: T, by simp [t1], by simp [t2], by simp [t3], fun t ht => ?_⟩
      rcases List.mem_cons.mp ht with rfl | ht
      · exact ⟨a1, b1⟩
      · exact t4 t ht
def oSortT : List D → Option (List D)
  | [.lst ds] => if srtOk ds then some ((sortT (ds.map fun d => (d, d))).map Prod.snd) else none
  | _ => none
theorem cd_sortT (hu : X.A.units + 64 < cLine) : CallR X (.builtin "sorted") (rCL X.K oSortT) := fun pins s σ H xs us Q I rv ⟨F, ds, es, fh, rl, ho, q⟩ => by
  unfold oSortT at ho
  split at ho
  · rename_i ds
    split at ho
    · rename_i hok
      cases ho
      obtain ⟨x, rfl, rx⟩ := rep1 rl
      obtain ⟨a, ys, rfl, k1, k2⟩ := rep_lst.mp rx
      obtain ⟨u, rfl, ru⟩ := vals1 rv
      cases ru
      obtain ⟨its, r1, p1, hz⟩ := I.list (fh.seq k1)
      obtain ⟨T, t1, t2, t3, t4⟩ := row3 k2 r1
      have kds : ∀ d ∈ ds, kD d = true := by
        unfold srtOk at hok
        rw [Bool.and_eq_true, Bool.and_eq_true] at hok
        exact List.all_eq_true.mp hok.1.1
      have st : ∀ t ∈ T, Stands X.K F t.2.2 t.2.1 := fun t ht => ⟨kds _ (by rw [← t3]; exact List.mem_map_of_mem ht), t.1, t4 t ht⟩
      have hlen : its.length ≤ sizeLine := by rw [← r1.length]; exact hz
      have keep : ∀ b o, s.heap.get? b = some o → (midH (srtH s.heap its) (s.heap.objs.size + 1) its).get? b = some o := fun b o qb => by
        have hlt : b < s.heap.objs.size := Heap.lt_size qb
        unfold midH srtH
        have z1 : ((s.heap.push (seqObj "list" #[] 0)).update s.heap.objs.size (Obj.mapSeq (· ++ its.toArray))).objs.size = s.heap.objs.size + 1 := by rw [Heap.size_update, size_push']
        have ne : ∀ k, b ≠ s.heap.objs.size + k := fun k => Nat.ne_of_lt (Nat.lt_of_lt_of_le hlt (Nat.le_add_right _ _))
        rw [Heap.get?_push_ne _ _ _ (by rw [size_push', Heap.size_update, size_push', z1]; exact ne 3), Heap.get?_push_ne _ _ _ (by rw [Heap.size_update, size_push', z1]; exact ne 2), Heap.get?_update_ne _ _ _ _ (ne 1),
          Heap.get?_push_ne _ _ _ (by rw [z1]; exact ne 1), Heap.get?_update_ne _ _ _ _ (show b ≠ s.heap.objs.size from ne 0), Heap.get?_push_ne _ _ _ (show b ≠ s.heap.objs.size from ne 0)]
        exact qb
      have I6 : Inv X pins σ H { s with heap := midH (srtH s.heap its) (s.heap.objs.size + 1) its } := I.kept (t' := s.toks) keep
      obtain ⟨κ, hk, C⟩ := cmp_D I6 fh X.A.in1.in1 (by show X.A.units + 1 + 1 + 60 < cLine; lia) (us := its) (ks := ds) (fun u hu => by
        rw [← t2] at hu
        obtain ⟨t, ht, rfl⟩ := List.mem_map.mp hu
        exact ⟨t.2.2, by rw [← t3]; exact List.mem_map_of_mem ht, st t ht⟩) hok
      refine srt_sorted p1.isList hlen (fun h2 Q q => hk h2 _ Q q) (fun _ => C) (fun v hv => hv) fun out a1 a2 => ?_
      obtain ⟨T', pT, eT⟩ := perm_lift (fun t : V × Value × D => t.2.1) a1 t2.symm
      have hT' : ∀ t ∈ T', Rep X.K F t.2.2 t.1 ∧ RelV t.1 t.2.1 := fun t ht => t4 t (pT.mem_iff.mp ht)
      have hk' : ∀ t ∈ T', keyOf X.K F t.2.1 = t.2.2 := fun t ht => keyOf_eq I fh (st t (pT.mem_iff.mp ht))
      have eD : T'.map (·.2.2) = (sortT (ds.map fun d => (d, d))).map Prod.snd := by
        have e1 : T'.map (fun t => (t.2.2, t.2.2)) = sortT (ds.map fun d => (d, d)) := by
          refine sortT_eq ?_ ?_ ?_
          · have := pT.map (fun t : V × Value × D => (t.2.2, t.2.2))
            rw [← t3, List.map_map]
            exact this
          · rw [List.pairwise_map]
            rw [eT, List.pairwise_map] at a2
            refine List.Pairwise.imp_of_mem (fun {x y} hx hy h => ?_) a2
            rw [hk' x hx, hk' y hy] at h
            exact h
          · intro x hx y hy h1 h2
            obtain ⟨d, hd, rfl⟩ := List.mem_map.mp hx
            obtain ⟨e, he, rfl⟩ := List.mem_map.mp hy
            rw [lt_eq (kds d hd) (kds e he) h1 h2]
        rw [← e1, List.map_map]
        rfl
      have hn : H (s.heap.objs.size + 1) = none := I.hok.fresh (Nat.le_succ _)
      have vo : Vals (T'.map (·.1)) out := by
        rw [eT]
        clear eT eD pT hk'
        induction T' with
        | nil => exact .nil
        | cons t T' ih => exact .cons (hT' t List.mem_cons_self).2 (ih fun t ht => hT' t (List.mem_cons_of_mem _ ht))
      have ro : RepL X.K F (T'.map (·.2.2)) (T'.map (·.1)) := by
        clear eT eD pT hk' vo
        induction T' with
        | nil => exact .nil
        | cons t T' ih => exact .cons (hT' t List.mem_cons_self).1 (ih fun t ht => hT' t (List.mem_cons_of_mem _ ht))
      obtain ⟨e, he⟩ := sortedAll_at s.heap its out.toArray
      have ll : (T'.map (·.1)).length ≤ sizeLine := by
        rw [List.length_map, pT.length_eq, ← List.length_map (f := fun t : V × Value × D => t.1) (as := T), t1]; exact hz
      refine ⟨.ref (s.heap.objs.size + 1), _, I.laid (t' := s.toks) (a := s.heap.objs.size + 1) (o := .lst (T'.map (·.1))) (fun b ob q => sortedAll_old q) (Nat.le_succ _) ⟨ll, out, e, vo, he⟩, rfl, ?_⟩
      exact q _ _ F _ (Grow.own fh hn) (fh.free hn) hn upd_same (by rw [← eD]; exact ro)
    · cases ho
  · cases ho
end
end DL
set_option maxRecDepth 100000
set_option maxHeartbeats 4000000
namespace DL
open PySem PySem.Spec PyProof.Rows L2 Srt PySem.W
variable [Lam]
section
variable {X : Cx} {pins : List (Addr × Obj)} {σ : St} {F H : Hp} {s : Shared}
structure Late (X : Cx) (pins : List (Addr × Obj)) (b : Addr) : Prop where
  loc : b ≠ X.env.locals
  up : X.s₀.heap.objs.size ≤ b
  cel : ∀ x c, X.env.cells.lookup x = some c → c ≠ b
  pin : ∀ p ∈ X.pn ++ pins, p.1 ≠ b
  frs : b ∉ frs X.stack
theorem late (I : Inv X pins σ H s) {b : Addr} (hb : s.heap.objs.size ≤ b) : Late X pins b where
  loc := Nat.ne_of_gt (Nat.lt_of_lt_of_le I.lt hb)
  up := Nat.le_trans I.sz hb
  cel := fun x c e z => by
    subst z
    obtain ⟨v, o, ho, _⟩ := I.cell x c e
    exact absurd (Heap.lt_size ho) (Nat.not_lt.mpr hb)
  pin := fun p hp z => by
    subst z
    exact absurd (Heap.lt_size (I.pin p hp).1) (Nat.not_lt.mpr hb)
  frs := fun z => (List.mem_cons.mp (I.stkSub b z)).elim (Nat.ne_of_gt (Nat.lt_of_lt_of_le I.lt hb)) (I.nofs hb)
theorem inv_turn (I : Inv X pins σ H s) {b : Addr} (l : Late X pins b) {h' : Heap} (k : ∀ c o, c ≠ b → s.heap.get? c = some o → h'.get? c = some o) (hn : H b = none) : Inv X pins σ H { s with heap := h' } :=
  I.turned (t' := s.toks) k hn l.loc (.inr l.up) l.cel l.pin
theorem inv_adopt (I : Inv X pins σ H s) {b : Addr} (l : Late X pins b) {h' : Heap} {o : HO} (k : ∀ c o, c ≠ b → s.heap.get? c = some o → h'.get? c = some o) (hn : H b = none) (new : ObjOk X.prog X.w (upd H b o) h' b o) :
    Inv X pins σ (upd H b o) { s with heap := h' } := by
  have nb : ∀ c u, H c = some u → c ≠ b := fun c u e z => by rw [z, hn] at e; cases e
  refine I.step (t' := s.toks) (g' := s.gens) (d' := s.drawn) (ch := [b]) (fun c hc => ?_) (fun c u _ _ hc e _ => k c u (fun z => hc (by simp [z])) e) (fun c u _ _ hc e _ => ⟨u.slots, k c u (fun z => hc (by simp [z])) e⟩)
    (fun c u hc _ n => by rw [upd_ne (fun z => hc (by simp [z]))]; exact n) (fun c u hc e => ⟨u, k c u (fun z => hc (by simp [z])) e⟩) (fun c xs e => by rw [upd_ne (nb c _ e)]; exact e) (fun c _ _ e => by rw [upd_ne (nb c _ e)]; exact e)
    (fun c ps e => ⟨#[], by rw [upd_ne (nb c _ e), e]; simp⟩) (fun m hm => ?_) (fun c u e => ?_) I.bare
  · have e : c = b := by simpa using hc
    subst e
    exact ⟨.inr l.up, l.loc, l.cel, l.pin⟩
  · obtain ⟨u, es, ep, ho, r⟩ := hm
    exact ⟨u, es, ep, k _ u (Ne.symm l.loc) ho, r⟩
  · by_cases hc : c = b
    · subst hc; rw [upd_same] at e; cases e; exact new
    · rw [upd_ne hc] at e
      refine (I.hok c u e).stay (fun d v hd q => k d v ?_ q) (fun d q => by rw [upd_ne (nb d _ q)]; exact q) fun d xs q => by rw [upd_ne (nb d _ q)]; exact q
      rcases hd with z | z
      · rw [z]; exact hc
      · exact nb d _ z
def keysD (op : List D → Option D) : List D → Option (List D)
  | [] => some []
  | d :: ds => (op [d]).bind fun k => (keysD op ds).map fun ks => k :: ks
def nodK : List D → Bool
  | [] => true
  | k :: r => (r.all fun e => ltT k e || ltT e k) && nodK r
def oSortK (op : List D → Option D) : D → Option (List D)
  | .lst ds => (keysD op ds).bind fun ks => if srtOk ks && nodK ks then some ((sortT (ks.zip ds)).map Prod.snd) else none
  | _ => none
theorem keysD_snoc {op : List D → Option D} : ∀ {l : List D} {d k : D} {ks : List D}, keysD op l = some ks → op [d] = some k → keysD op (l ++ [d]) = some (ks ++ [k])
  | [], d, k, ks, h, e => by
    cases h
    simp [keysD, e]
  | x :: l, d, k, ks, h, e => by
    simp only [keysD] at h
    obtain ⟨k1, h1, h2⟩ := Option.bind_eq_some_iff.mp h
    obtain ⟨ks1, h3, h4⟩ := Option.map_eq_some_iff.mp h2
    subst h4
    simp only [List.cons_append, keysD, h1, Option.bind_some, keysD_snoc h3 e, Option.map_some]
theorem keysD_len {op : List D → Option D} : ∀ {l ks : List D}, keysD op l = some ks → ks.length = l.length
  | [], ks, h => by cases h; rfl
  | x :: l, ks, h => by
    simp only [keysD] at h
    obtain ⟨k1, h1, h2⟩ := Option.bind_eq_some_iff.mp h
    obtain ⟨ks1, h3, h4⟩ := Option.map_eq_some_iff.mp h2
    subst h4
    simp [keysD_len h3]
theorem keysD_mem {op : List D → Option D} : ∀ {l ks : List D} {d : D}, keysD op l = some ks → d ∈ l → ∃ k, op [d] = some k
  | x :: l, ks, d, h, hd => by
    simp only [keysD] at h
    obtain ⟨k1, h1, h2⟩ := Option.bind_eq_some_iff.mp h
    obtain ⟨ks1, h3, h4⟩ := Option.map_eq_some_iff.mp h2
    rcases List.mem_cons.mp hd with rfl | hd
    · exact ⟨k1, h1⟩
    · exact keysD_mem h3 hd
theorem nodK_at : ∀ {ks : List D}, nodK ks = true → ∀ {i j : Nat} (hi : i < ks.length) (hj : j < ks.length), ltT ks[i] ks[j] = false → ltT ks[j] ks[i] = false → i = j
  | k :: r, h, 0, 0, _, _, _, _ => rfl
  | k :: r, h, 0, j + 1, hi, hj, a, b => by
    simp only [nodK, Bool.and_eq_true] at h
    have := List.all_eq_true.mp h.1 (r[j]'(by simpa using hj)) (by simp)
    simp only [List.getElem_cons_zero, List.getElem_cons_succ] at a b
    rw [a, b] at this; cases this
  | k :: r, h, i + 1, 0, hi, hj, a, b => by
    simp only [nodK, Bool.and_eq_true] at h
    have := List.all_eq_true.mp h.1 (r[i]'(by simpa using hi)) (by simp)
    simp only [List.getElem_cons_zero, List.getElem_cons_succ] at a b
    rw [a, b] at this; cases this
  | k :: r, h, i + 1, j + 1, hi, hj, a, b => by
    simp only [nodK, Bool.and_eq_true] at h
    simp only [List.getElem_cons_succ] at a b
    rw [nodK_at h.2 (by simpa using hi) (by simpa using hj) a b]
theorem vals_zip {α β γ δ : Type} : ∀ {a : List α} {b : List β} {c : List γ} {d : List δ}, a.length = b.length → b.length = c.length → c.length = d.length →
    ∃ T : List (α × β × γ × δ), T.map (·.1) = a ∧ T.map (·.2.1) = b ∧ T.map (·.2.2.1) = c ∧ T.map (·.2.2.2) = d
  | [], [], [], [], _, _, _ => ⟨[], rfl, rfl, rfl, rfl⟩
  | x :: a, y :: b, z :: c, w :: d, h1, h2, h3 => by
    obtain ⟨T, t1, t2, t3, t4⟩ := vals_zip (a := a) (b := b) (c := c) (d := d) (by simpa using h1) (by simpa using h2) (by simpa using h3)
    exact ⟨(x, y, z, w) :: T, by simp [t1], by simp [t2], by simp [t3], by simp [t4]⟩
theorem get_upd_self {h : Heap} {a : Addr} {ks : List Value} {e : Nat} (ho : h.get? a = some (seqObj "list" ks.toArray e)) (k : Value) : ∃ e', (h.update a (Obj.mapSeq (·.push k))).get? a = some (seqObj "list" (ks ++ [k]).toArray e') := by
  have := get?_update_seq ho (·.push k)
  have e2 : (ks.toArray.push k) = (ks ++ [k]).toArray := by simp
  rw [e2] at this
  exact ⟨_, this⟩
theorem sortK_run {k k' : Nat} {fn l : Addr} {fd : FuncData} {ps : List Str} {sp : Sp} {op : List D → Option D} {ds es : List D} {Q : VK} (Fk : FnOk X.prog X.w X.K X.mg X.base CX0 k fn fd ps sp)
    (hsp : ∀ (F' H' : Hp) (dv kd : D) (x : V) (Q' : VK), Grow F H F' H' → Rep X.K F' dv x → op [dv] = some kd → (∀ v F'' H'', Grow F' H' F'' H'' → Rep X.K F'' kd v → Q' v H'') → sp [x] H' Q' E0) (hb : Binds X.K fd ps []) (hr : Room k' X.A) (hk : k + 2 ≤ k')
    (I : Inv X pins σ H s) (fh : Same F H) (rl : Rep X.K F (.lst ds) (.ref l)) (ho : oSortK op (.lst ds) = some es)
    (q : ∀ a ys F' H', Grow F H F' H' → F' a = none → H a = none → H' a = some (.lst ys) → RepL X.K F' es ys → Q (.ref a) H') :
    wpAny (model X.prog X.w) X.A (call (.builtin "sorted") [.ref l] [(Str.ofString "key", .ref fn)]) (EP X pins σ Q) X.xe s := by
  unfold oSortK at ho
  dsimp only at ho
  obtain ⟨dks, hks, ho⟩ := Option.bind_eq_some_iff.mp ho
  split at ho
  · rename_i hok
    rw [Bool.and_eq_true] at hok
    cases ho
    obtain ⟨a, ys, z, k1, k2⟩ := rep_lst.mp rl
    cases z
    obtain ⟨its, r1, p1, hz⟩ := I.list (fh.seq k1)
    have hlen : its.length ≤ sizeLine := by rw [← r1.length]; exact hz
    have hlds : ds.length = its.length := by rw [k2.length, r1.length]
    have hlks := keysD_len hks
    have L1 : Late X pins (s.heap.objs.size + 1) := late I (Nat.le_succ _)
    have L3 : Late X pins (s.heap.objs.size + 3) := late I (Nat.le_add_right _ _)
    have rm : Room k X.A.in1.in1 := ((hr.mono hk).in1).in1
    have hu : X.A.in1.in1.units + 60 < cLine := by have := rm.units; lia
    have z1 : ((s.heap.push (seqObj "list" #[] 0)).update s.heap.objs.size (Obj.mapSeq (· ++ its.toArray))).objs.size = s.heap.objs.size + 1 := by rw [Heap.size_update, size_push']
    have keep : ∀ b o, s.heap.get? b = some o → (midH (srtH s.heap its) (s.heap.objs.size + 1) its).get? b = some o := fun b o qb => by
      have hlt : b < s.heap.objs.size := Heap.lt_size qb
      unfold midH srtH
      have ne : ∀ k, b ≠ s.heap.objs.size + k := fun k => Nat.ne_of_lt (Nat.lt_of_lt_of_le hlt (Nat.le_add_right _ _))
      rw [Heap.get?_push_ne _ _ _ (by rw [size_push', Heap.size_update, size_push', z1]; exact ne 3), Heap.get?_push_ne _ _ _ (by rw [Heap.size_update, size_push', z1]; exact ne 2), Heap.get?_update_ne _ _ _ _ (ne 1),
        Heap.get?_push_ne _ _ _ (by rw [z1]; exact ne 1), Heap.get?_update_ne _ _ _ _ (show b ≠ s.heap.objs.size from ne 0), Heap.get?_push_ne _ _ _ (show b ≠ s.heap.objs.size from ne 0)]
      exact qb
    have I6 : Inv X pins σ H { s with heap := midH (srtH s.heap its) (s.heap.objs.size + 1) its } := I.kept (t' := s.toks) keep
    have hoL : (srtH s.heap its).get? (s.heap.objs.size + 1) = some (seqObj "list" its.toArray 0) := by
      unfold srtH
      rw [← z1]; exact Heap.get?_push_size _ rfl
    have zs : (srtH s.heap its).objs.size = s.heap.objs.size + 2 := by unfold srtH; rw [size_push', z1]
    obtain ⟨e1, ho1⟩ : ∃ e1, ((srtH s.heap its).update (s.heap.objs.size + 1) (Obj.mapSeq fun _ => (#[] : Array Value))).get? (s.heap.objs.size + 1) = some (seqObj "list" #[] e1) := ⟨_, get?_update_seq hoL fun _ => #[]⟩
    have hoA : (midH (srtH s.heap its) (s.heap.objs.size + 1) its).get? (s.heap.objs.size + 1) = some (seqObj "list" #[] e1) := by
      unfold midH
      rw [Heap.get?_push_ne _ _ _ (by rw [size_push', Heap.size_update, zs]; exact Nat.ne_of_lt (by lia)), Heap.get?_push_ne _ _ _ (by rw [Heap.size_update, zs]; exact Nat.ne_of_lt (by lia))]
      exact ho1
    have hoK : (midH (srtH s.heap its) (s.heap.objs.size + 1) its).get? (s.heap.objs.size + 3) = some (seqObj "list" ([] : List Value).toArray 0) := by
      unfold midH
      have : s.heap.objs.size + 3 = (((srtH s.heap its).update (s.heap.objs.size + 1) (Obj.mapSeq fun _ => (#[] : Array Value))).push (seqObj "tuple" its.toArray 0)).objs.size := by rw [size_push', Heap.size_update, zs]
      rw [this]
      exact Heap.get?_push_size _ rfl
    have hn1 : H (s.heap.objs.size + 1) = none := I.hok.fresh (Nat.le_succ _)
    have hn3 : H (s.heap.objs.size + 3) = none := I.hok.fresh (Nat.le_add_right _ _)
    refine srt_sortedK p1.isList hlen (fun ks s' => ∃ F' H' xks kds e, Inv X pins σ H' s' ∧ Grow F H F' H' ∧ RepL X.K F' kds xks ∧ Vals xks ks ∧ keysD op (ds.take ks.length) = some kds ∧
      s'.heap.get? (s.heap.objs.size + 3) = some (seqObj "list" ks.toArray e) ∧ H' (s.heap.objs.size + 3) = none ∧ s'.heap.get? (s.heap.objs.size + 1) = some (seqObj "list" #[] e1) ∧ H' (s.heap.objs.size + 1) = none)
      ⟨F, H, [], [], 0, I6, .refl fh, .nil, .nil, rfl, hoK, hn3, hoA, hn1⟩ ?_ ?_
    · rintro l0 v r0 hv ks s' hl ⟨F', H', xks, kds, e, I', g', rk, vk, hkd, hK, nK, hA, nA⟩
      -- the next item
      have hi : ks.length < ds.length := by rw [hlds, hv, hl]; simp
      have hvi : its[ks.length]? = some v := by rw [hv, hl]; simp
      obtain ⟨dv, hdv⟩ : ∃ dv, ds[ks.length]? = some dv := ⟨_, getElem?_pos ds _ hi⟩
      obtain ⟨x, hx, rx⟩ := k2.get hdv
      obtain ⟨u, hu', ru⟩ := r1.get hx
      rw [hvi] at hu'
      obtain rfl : v = u := Option.some.inj hu'
      obtain ⟨kd, hkd'⟩ := keysD_mem hks (List.mem_of_getElem? hdv)
      have hbs : BindsTo s' fd ⟨[v], []⟩ (ps.zip ([v] ++ [])) := hb s' [v] I'.kIn (by
        have := Fk.len [x] H' (fun v H'' => ∃ F'', Grow F' H' F'' H'' ∧ Rep X.K F'' kd v) E0 (hsp F' H' dv kd x _ g' (rx.mono g'.ff) hkd' fun v F'' H'' g'' r'' => ⟨F'', g'', r''⟩)
        simpa using this)
      refine wpAny_call (codeAny_mono (Fk.run X.A.in1.in1 X.stack s' H' ⟨[v], []⟩ [v] [x] (fun v H'' => ∃ F'', Grow F' H' F'' H'' ∧ Rep X.K F'' kd v) E0 rm ⟨I'.ok.frames, I'.ok.mod, I'.bs, Nat.le_trans I'.ok.bsz I'.sz, I'.stack, I'.stkFree, I'.hok, I'.bare⟩ hbs (.cons ru .nil)
        (hsp F' H' dv kd x _ g' (rx.mono g'.ff) hkd' fun v F'' H'' g'' r'' => ⟨F'', g'', r''⟩)) fun r s'' hq => ?_)
      cases r with
      | error er => exact hq.elim
      | ok fl =>
        cases fl with
        | next => exact False.elim hq
        | brk => exact False.elim hq
        | cont => exact False.elim hq
        | ret kv =>
          obtain ⟨vv, H'', os, bare, un, hok', rv, F'', g'', rr⟩ := (show CE X.stack X.prog X.w H' s' _ kv s'' from hq)
          have hK2 := un.keep _ _ hK nK L3.frs (by simp)
          have hA2 := un.keep _ _ hA nA L1.frs (by simp)
          have nK2 := un.free _ _ hK nK (by simp)
          have nA2 := un.free _ _ hA nA (by simp)
          obtain ⟨hh, gg, dd, tt, oo⟩ := s''
          obtain rfl : oo = s'.os := os
          have I2 := I'.call (h' := hh) (g' := gg) (d' := dd) (t' := tt) (ch := []) un hok' bare (fun b z => absurd z (by simp))
          obtain ⟨e', hK3⟩ := get_upd_self hK2 kv
          have I3 := inv_turn I2 L3 (h' := hh.update (s.heap.objs.size + 3) (Obj.mapSeq (·.push kv))) (fun c o hc e => by rw [Heap.get?_update_ne _ _ _ _ hc]; exact e) nK2
          refine ⟨⟨e, hK2⟩, F'', H'', xks ++ [vv], kds ++ [kd], e', I3, g'.trans g'', (rk.mono g''.ff).append (.cons rr .nil), vk.append (.cons rv .nil), ?_, hK3, nK2, ?_, nA2⟩
          · rw [List.length_append, List.length_singleton, List.take_succ_eq_append_getElem hi]
            refine keysD_snoc hkd ?_
            have : ds[ks.length] = dv := by rw [getElem?_pos ds _ hi] at hdv; exact Option.some.inj hdv
            rw [this]; exact hkd'
          · show (hh.update _ _).get? _ = _
            rw [Heap.get?_update_ne _ _ _ _ (Nat.ne_of_lt (by lia))]
            exact hA2
    · rintro ks s' hl ⟨F', H', xks, kds, e, I', g', rk, vk, hkd, hK, nK, hA, nA⟩
      rw [hl, ← hlds, List.take_length, hks] at hkd
      obtain rfl : dks = kds := Option.some.inj hkd
      refine ⟨⟨e, hK⟩, by rw [hA, hoA], ?_⟩
      have hkl : ks.length = dks.length := by rw [← vk.length, rk.length]
      obtain ⟨T, t1, t2, t3, t4⟩ := row3 rk vk
      have kdk : ∀ d ∈ dks, kD d = true := by
        have := hok.1
        unfold srtOk at this
        rw [Bool.and_eq_true, Bool.and_eq_true] at this
        exact List.all_eq_true.mp this.1.1
      have st : ∀ u ∈ ks, ∃ d ∈ dks, Stands X.K F' d u := fun u hu => by
        rw [← t2] at hu
        obtain ⟨t, ht, rfl⟩ := List.mem_map.mp hu
        have hm : t.2.2 ∈ dks := by rw [← t3]; exact List.mem_map_of_mem ht
        exact ⟨t.2.2, hm, kdk _ hm, t.1, t4 t ht⟩
      obtain ⟨κ, hkind, C⟩ := cmp_D I' g'.fh X.A.in1.in1 hu st hok.1
      refine ⟨κ, _, _, fun h2 => hkind (by lia), fun _ => C, fun _ h => h, fun Tz tp ts => ?_⟩
      -- all five rows together
      obtain ⟨T, w1, w2, w3, w4⟩ := vals_zip (a := xks.zip ks) (b := dks) (c := its) (d := ys.zip ds) (by rw [List.length_zip, rk.length, vk.length]; simp) (by rw [hlks, hlds]) (by rw [List.length_zip, r1.length, hlds]; simp)
      have uT : ks.zip its = T.map fun t => (t.1.2, t.2.2.1) := by
        rw [← w3, ← List.map_snd_zip (l₁ := xks) (l₂ := ks) (by rw [vk.length]; exact Nat.le_refl _), ← w1]
        simp [List.zip_map', List.map_map, Function.comp_def]
      obtain ⟨T', pT, eT⟩ := perm_lift (fun t : (V × Value) × D × Value × V × D => (t.1.2, t.2.2.1)) tp uT
      have rel : ∀ t ∈ T, Rep X.K F' t.2.1 t.1.1 ∧ RelV t.1.1 t.1.2 ∧ Rep X.K F' t.2.2.2.2 t.2.2.2.1 ∧ RelV t.2.2.2.1 t.2.2.1 ∧ t.2.1 ∈ dks := by
        intro t ht
        obtain ⟨i, hi, rfl⟩ := List.mem_iff_getElem.mp ht
        have e1' : (xks.zip ks)[i]? = some T[i].1 := by rw [← w1]; simp [hi]
        have e2' : dks[i]? = some T[i].2.1 := by rw [← w2]; simp [hi]
        have e3' : its[i]? = some T[i].2.2.1 := by rw [← w3]; simp [hi]
        have e4' : (ys.zip ds)[i]? = some T[i].2.2.2 := by rw [← w4]; simp [hi]
        rw [List.getElem?_zip_eq_some] at e1' e4'
        obtain ⟨x, hx, rx⟩ := rk.get e2'
        rw [e1'.1] at hx
        obtain rfl := Option.some.inj hx
        obtain ⟨u, hu2, ru⟩ := vk.get e1'.1
        rw [e1'.2] at hu2
        obtain rfl := Option.some.inj hu2
        obtain ⟨y, hy, ry⟩ := k2.get e4'.2
        rw [e4'.1] at hy
        obtain rfl := Option.some.inj hy
        obtain ⟨w, hw, rw'⟩ := r1.get e4'.1
        rw [e3'] at hw
        obtain rfl := Option.some.inj hw
        exact ⟨rx, ru, ry.mono g'.ff, rw', List.mem_of_getElem? e2'⟩
      have rel' : ∀ t ∈ T', _ := fun t ht => rel t (pT.mem_iff.mp ht)
      have hkey : ∀ t ∈ T', keyOf X.K F' t.1.2 = t.2.1 := fun t ht => keyOf_eq I' g'.fh ⟨kdk _ (rel' t ht).2.2.2.2, _, (rel' t ht).1, (rel' t ht).2.1⟩
      have eD : T'.map (fun t => t.2.2.2.2) = (sortT (dks.zip ds)).map Prod.snd := by
        have ez : dks.zip ds = T.map fun t => (t.2.1, t.2.2.2.2) := by
          rw [← w2, ← List.map_snd_zip (l₁ := ys) (l₂ := ds) (by rw [← k2.length]; exact Nat.le_refl _), ← w4]
          simp [List.zip_map', List.map_map, Function.comp_def]
        have e1 : T'.map (fun t => (t.2.1, t.2.2.2.2)) = sortT (dks.zip ds) := by
          refine sortT_eq ?_ ?_ ?_
          · rw [ez]; exact pT.map _
          · rw [List.pairwise_map]
            rw [eT, List.pairwise_map] at ts
            refine List.Pairwise.imp_of_mem (fun {x y} hx hy h => ?_) ts
            have h' : ltT (keyOf X.K F' y.1.2) (keyOf X.K F' x.1.2) = false := h
            rw [hkey x hx, hkey y hy] at h'
            exact h'
          · intro x hx y hy h1 h2
            obtain ⟨i, hi, rfl⟩ := List.mem_iff_getElem.mp hx
            obtain ⟨j, hj, rfl⟩ := List.mem_iff_getElem.mp hy
            rw [List.length_zip] at hi hj
            simp only [List.getElem_zip] at h1 h2 ⊢
            have : i = j := nodK_at hok.2 (by lia) (by lia) h1 h2
            subst this; rfl
        rw [← e1, List.map_map]
        rfl
      have hout : Tz.map (·.2) = T'.map fun t => t.2.2.1 := by rw [eT, List.map_map]; rfl
      have vo : Vals (T'.map fun t => t.2.2.2.1) (Tz.map (·.2)) := by
        rw [hout]
        clear eT eD pT hkey hout
        induction T' with
        | nil => exact .nil
        | cons t T' ih => exact .cons (rel' t List.mem_cons_self).2.2.2.1 (ih fun t ht => rel' t (List.mem_cons_of_mem _ ht))
      have ro : RepL X.K F' (T'.map fun t => t.2.2.2.2) (T'.map fun t => t.2.2.2.1) := by
        clear eT eD pT hkey hout vo
        induction T' with
        | nil => exact .nil
        | cons t T' ih => exact .cons (rel' t List.mem_cons_self).2.2.1 (ih fun t ht => rel' t (List.mem_cons_of_mem _ ht))
      have ll : (T'.map fun t => t.2.2.2.1).length ≤ sizeLine := by
        rw [List.length_map, pT.length_eq]
        have := congrArg List.length w3
        rw [List.length_map] at this
        rw [this]; exact hlen
      have I8 := inv_turn I' L3 (h' := s'.heap.update (s.heap.objs.size + 3) (Obj.mapSeq fun _ => #[])) (fun c o hc e => by rw [Heap.get?_update_ne _ _ _ _ hc]; exact e) nK
      have hA8 : (s'.heap.update (s.heap.objs.size + 3) (Obj.mapSeq fun _ => #[])).get? (s.heap.objs.size + 1) = some (seqObj "list" #[] e1) := by
        rw [Heap.get?_update_ne _ _ _ _ (Nat.ne_of_lt (by lia))]; exact hA
      obtain ⟨e9, hA9⟩ : ∃ e9, ((s'.heap.update (s.heap.objs.size + 3) (Obj.mapSeq fun _ => #[])).update (s.heap.objs.size + 1) (Obj.mapSeq fun _ => (Tz.map (·.2)).toArray)).get? (s.heap.objs.size + 1) = some (seqObj "list" (Tz.map (·.2)).toArray e9) := ⟨_, get?_update_seq hA8 fun _ => (Tz.map (·.2)).toArray⟩
      have I9 := inv_adopt I8 L1 (o := .lst (T'.map fun t => t.2.2.2.1)) (h' := (s'.heap.update (s.heap.objs.size + 3) (Obj.mapSeq fun _ => #[])).update (s.heap.objs.size + 1) (Obj.mapSeq fun _ => (Tz.map (·.2)).toArray))
        (fun c o hc e => by rw [Heap.get?_update_ne _ _ _ _ hc]; exact e) nA ⟨ll, _, e9, vo, hA9⟩
      refine ⟨.ref (s.heap.objs.size + 1), _, I9, rfl, ?_⟩
      have gg : Grow F' H' F' (upd H' (s.heap.objs.size + 1) (.lst (T'.map fun t => t.2.2.2.1))) := Grow.own g'.fh nA
      exact q _ _ F' _ (g'.trans gg) (g'.fh.free nA) hn1 upd_same (by rw [← eD]; exact ro)
  · cases ho
def oSortK1 (op : List D → Option D) : List D → Option (List D)
  | [d] => oSortK op d
  | _ => none
end
end DL
set_option maxRecDepth 100000
set_option maxHeartbeats 4000000
namespace DL
open PySem PySem.Spec PyProof.Rows L2 Srt PySem.W
variable [Lam]
structure ClsOk (K : Frag) (x : Str) (C : Addr) : Prop where
  ns : PySem.W.nsIn K mainGlobals x = some (some (.ref C))
  makes : PySem.W.makesIn K C = true
  init : PySem.W.findIn K (.ref C) "__init__" = some (some (.builtin "object.__init__"))
  kp : PySem.W.keepIn K (.ref C) = true
  cls : Cls K C
  n : ClsN K C
structure CalM (P : Program) (w : World) (K : Frag) (mg : Str → Option Value) (base : Heap) (x m : Str) (C : Addr) (k : Nat) (ps : List Str) (ar : Nat) (op : List D → Option D) (fn : Addr) (fd : FuncData) : Prop where
  ok : FnOk P w K mg base CX0 k fn fd ps (spD K ar op)
  me : Meth K C m fn
theorem kitOne_of {K : Frag} {C : Addr} {T : String} (hm : PySem.W.kitMeta T = true) (h : PySem.W.subIn K (.ref C) (.type T) = some false) : PySem.W.kitOne K (.ref C) (.type T) = some false := by
  unfold PySem.W.kitOne PySem.W.kitCls
  rw [if_neg (fun z => by have := eq_of_beq z; cases this)]
  dsimp only
  rw [if_pos hm]
  exact h
theorem clsn_mk {K : Frag} {C : Addr} (h1 : PySem.W.subIn K (.ref C) (.type "int") = some false) (h2 : PySem.W.subIn K (.ref C) (.type "bool") = some false) (h3 : PySem.W.subIn K (.ref C) (.type "tuple") = some false)
    (h4 : PySem.W.subIn K (.ref C) (.type "list") = some false) (h5 : PySem.W.subIn K (.ref C) (.type "str") = some false) (h6 : PySem.W.subIn K (.ref C) (.type "dict") = some false) :
    ∀ T : String, T ∈ ["int", "bool", "tuple", "list", "str", "dict"] → PySem.W.kitOne K (.ref C) (.type T) = some false := by
  intro T hT
  simp only [List.mem_cons, List.not_mem_nil, or_false] at hT
  rcases hT with rfl | rfl | rfl | rfl | rfl | rfl <;> exact kitOne_of (by decide +kernel) (by assumption)
section
variable {X : Cx} {pins : List (Addr × Obj)} {σ : St} {F H : Hp} {s : Shared}
theorem run_make0 {C : Addr} {Q : VK} (makes : PySem.W.makesIn X.K C = true) (init : PySem.W.findIn X.K (.ref C) "__init__" = some (some (.builtin "object.__init__"))) (I : Inv X pins σ H s)
    (h : Q (.ref (s.heap.objs.size + 1)) (upd (upd H s.heap.objs.size (.own (s.heap.objs.size + 1))) (s.heap.objs.size + 1) (.ins C s.heap.objs.size []))) : wpAny (model X.prog X.w) X.A (call (.ref C) []) (EP X pins σ Q) X.xe s := by
  have I2 := Inv.made (C := C) I
  have kin := I.kIn
  obtain ⟨hh, g, d, t, os⟩ := s
  have Y := makes_of (M := model X.prog X.w) kin makes
  refine wpAny_call (make_core Y (looks_findIn kin init) (fun self => Looks.of_pure (oi_bind self)) (.inr ⟨rfl, rfl⟩) ?_)
  have hx : ((hh.push emptyDict).push (instObj C hh.objs.size)).get? (hh.objs.size + 1) = some (instObj C hh.objs.size) := by
    have : hh.objs.size + 1 = (hh.push emptyDict).objs.size := (size_push' _ _).symm
    rw [this]; exact Heap.get?_push_size _ rfl
  have t1 : Looks (model X.prog X.w) ((hh.push emptyDict).push (instObj C hh.objs.size)) (typeOf (.ref (hh.objs.size + 1))) (.ref C) := (Looks.ld hx).andThen .now
  have t2 : Looks (model X.prog X.w) ((hh.push emptyDict).push (instObj C hh.objs.size)) (isInstance (.ref (hh.objs.size + 1)) (.type "object")) true := t1.andThen (Y.top.keeps fun b o e => Heap.get?_push_of_some _ (Heap.get?_push_of_some _ e))
  refine codeAny_call_builtin oi_plain entry_oi (@check_slot (model X.prog X.w) _ _ _ "object.__init__" "object" "__init__" (.ref (hh.objs.size + 1)) [] [] _ oi_kind oi_split t2 (oi_args (.ref (hh.objs.size + 1))) ?_)
  rw [oi_run]
  exact wpAny_pure (And.intro rfl ⟨V.ref (hh.objs.size + 1), _, I2, rfl, h⟩)
theorem pd_new {x : Str} {C : Addr} {p pos : Pos} (O : ClsOk X.K x C) (hm : X.mg x = some (.ref C)) (hg : Gl X x) (hdb : (x == ("__debug__" : Str)) = false := by decide) : PE X (.Call (.Name x p) [] [] pos) (tD X.K (eC (.obj x))) := by
  intro pins s σ H Q I h
  obtain ⟨F0, H0, F, ρ, d, r, hf, q⟩ := h
  cases hf
  refine wpAny_Call_Name_kw (ld_glob I hg hm ?_ hdb)
  refine PySem.W.callWith_K0 I.kIn O.kp (run_make0 O.makes O.init I ?_)
  have n0 : H s.heap.objs.size = none := I.hok.fresh (Nat.le_refl _)
  have n1 : H (s.heap.objs.size + 1) = none := I.hok.fresh (Nat.le_succ _)
  have fh := r.fh
  have g1 : Grow F H F (upd H s.heap.objs.size (.own (s.heap.objs.size + 1))) := Grow.own fh n0
  have n1' : upd H s.heap.objs.size (.own (s.heap.objs.size + 1)) (s.heap.objs.size + 1) = none := by rw [upd_ne (Nat.ne_of_gt (Nat.lt_succ_self _))]; exact n1
  have g2 := Grow.new (o := .ins C s.heap.objs.size []) g1.fh n1'
  exact q _ _ _ (g1.trans g2) (rep_obj.mpr ⟨s.heap.objs.size + 1, s.heap.objs.size, C, rfl, upd_same, O.ns, O.n⟩)
def isO (x : Str) : D → Bool
  | .obj y => x == y
  | _ => false
def eMet (x : Str) (ar : Nat) (op : List D → Option D) (g : FE) (fa : FA) : FE := fun ρ => (g ρ).bind fun d => (fa ρ).bind fun ds => if isO x d then callD ar [] op (d :: ds) else none
theorem pd_met {x m : Str} {C : Addr} {o e : Expr} {es : List Expr} {apos pos : Pos} {k k' ar : Nat} {fn : Addr} {fd : FuncData} {ps : List Str} {op : List D → Option D} {g : FE} {fa : FA} {pl : Sem Bool} (O : ClsOk X.K x C)
    (M : CalM X.prog X.w X.K X.mg X.base x m C k ps ar op fn fd) (b : Binds X.K fd ps []) (hr : Room k' X.A) (hk : k ≤ k') (ho : PE X o (tD X.K g)) (ha : PA X (e :: es) (tDA X.K fa))
    (hst : starEach (e :: es) X.env = (false, eval e X.env) :: starEach es X.env := by rfl) (hpl : (backTo pos (starEach es X.env)).any (·.1) = false := by rfl)
    (ht : eval (.Call (.Attribute o m apos) (e :: es) [] pos) X.env = (do
      let ov ← eval o X.env
      standAt apos.atName
      let (f, first) ← holding [ov] (getMethod ov m pl)
      callWith pos f first (backTo pos (starEach (e :: es) X.env)) (backToKw pos (keywordEach [] X.env))) := by rfl) :
    PE X (.Call (.Attribute o m apos) (e :: es) [] pos) (tD X.K (eMet x ar op g fa)) :=
  pe_imp (pe_meth (pl := pl) ho O.cls M.me M.ok (hr.mono hk) b .nil pass0 ha hst hpl ht) fun σ H Q ⟨F0, H0, F, ρ, d, r, hf, q⟩ => by
    obtain ⟨d1, h1, hf⟩ := Option.bind_eq_some_iff.mp hf
    obtain ⟨ds, h2, hf⟩ := Option.bind_eq_some_iff.mp hf
    split at hf
    · rename_i hi
      obtain rfl : d1 = .obj x := by
        cases d1 <;> simp only [isO] at hi <;> first | (cases hi; done) | skip
        rw [(by simpa using hi : x = _)]
      refine ⟨F0, H0, F, ρ, .obj x, r, h1, fun v F1 H1 g1 r1 => ?_⟩
      obtain ⟨a, dx, C', rfl, e1, e2, e3⟩ := rep_obj.mp r1
      have hC : C' = C := by
        have := e2.symm.trans O.ns
        cases this; rfl
      subst hC
      refine ⟨a, dx, [], rfl, g1.fh _ _ e1, rfl, F0, H0, F1, ρ, ds, r.grow g1, h2, fun vs F2 H2 g2 r2 => ?_⟩
      unfold callD at hf
      split at hf
      · rename_i hl
        refine ⟨F2, (.obj x :: ds) ++ [], d, r.sameT (g1.trans g2), (RepL.cons (r1.mono g2.ff) r2).append .nil, hl, hf, fun v F3 H3 g3 r3 => q v F3 H3 (g1.trans (g2.trans g3)) r3⟩
      · cases hf
    · cases hf
end
end DL
set_option maxRecDepth 100000
set_option maxHeartbeats 4000000
namespace DL
open PySem PySem.Spec PyProof.Rows L2
variable [Lam]
section
variable {X : Cx} {pins : List (Addr × Obj)} {σ : St} {F H : Hp} {s : Shared}
theorem eqAt_items (I : Inv X pins σ H s) (fh : Same F H) (A : Around) : ∀ {ds es : List D} {xs ys : List V} {us vs : List Value}, okEL ds es = true → A.units + depL ds < cLine → RepL X.K F ds xs → RepL X.K F es ys → Vals xs us → Vals ys vs →
      ∀ j (h1 : j < us.length) (h2 : j < vs.length), SeqAt.EqAt A s us[j] vs[j] (eqJ ds es j)
  | [], es, xs, ys, us, vs, _, _, k1, _, w1, _, j, h1, _ => by
    cases k1.nil_inv
    cases w1
    exact absurd h1 (Nat.not_lt_zero _)
  | d :: ds, es, xs, ys, us, vs, ho, hd, k1, k2, w1, w2, j, h1, h2 => by
    obtain ⟨x, r, rfl, a1, a2⟩ := k1.cons_inv
    cases w1 with
    | cons p1 p2 =>
      cases es with
      | nil => cases k2.nil_inv; cases w2; exact absurd h2 (Nat.not_lt_zero _)
      | cons e es =>
        obtain ⟨y, r', rfl, b1, b2⟩ := k2.cons_inv
        cases w2 with
        | cons p3 p4 =>
          simp only [okEL, Bool.and_eq_true] at ho
          simp only [depL] at hd
          cases j with
          | zero =>
            have e0 : eqJ (d :: ds) (e :: es) 0 = eqD d e := by simp [eqJ]
            rw [e0]
            exact eqAt_D I fh A ho.1 (by lia) a1 b1 p1 p3
          | succ j =>
            have e0 : eqJ (d :: ds) (e :: es) (j + 1) = eqJ ds es j := by simp [eqJ]
            rw [e0]
            exact eqAt_items I fh A ho.2 (by lia) a2 b2 p2 p4 j (by simpa using h1) (by simpa using h2)
def oNeS : D → D → Option D
  | .tup ds, .tup es => if okEL ds es && decide (depL ds ≤ 60) then some (.bl (!eqL ds es)) else none
  | _, _ => none
theorem od_neS (hu : X.A.units + 64 < cLine) : OpR X (compareOp .NotEq) (rD X.K oNeS) := by
  intro pins s σ H x y v u Q I rx ry h
  obtain ⟨F, d1, d2, d, fh, r1, r2, ho, q⟩ := h
  unfold oNeS at ho
  split at ho
  · rename_i ds es
    split at ho
    · rename_i hc
      cases ho
      rw [Bool.and_eq_true] at hc
      obtain ⟨a, xs, rfl, k1, k2⟩ := rep_tup.mp r1
      obtain ⟨b, ys, rfl, k3, k4⟩ := rep_tup.mp r2
      cases rx
      cases ry
      obtain ⟨i1, v1, t1, _⟩ := I.tuple (same_seqT fh k1)
      obtain ⟨i2, v2, t2, _⟩ := I.tuple (same_seqT fh k3)
      have hq := eqAt_items I fh X.A.in1 hc.1 (by have := of_decide_eq_true hc.2; show X.A.units + 1 + depL ds < cLine; lia) k2 k4 v1 v2
      have := SeqAt.RcNeAt.tuples (A := X.A) (e := eqJ ds es) (show s.heap.IsTuple a i1.toArray from t1) (show s.heap.IsTuple b i2.toArray from t2) (by lia) (fun j h1 h2 => by simpa using hq j (by simpa using h1) (by simpa using h2))
      simp only [List.size_toArray, ← v1.length, ← v2.length, ← k2.length, ← k4.length, eqL_range] at this
      exact this X.prog X.w _ _ ⟨.bl _, H, I, rfl, q _ F H (.refl fh) (rep_bl.mpr rfl)⟩
    · cases ho
  · cases ho
abbrev oNe2 : D → D → Option D := fun x y => (oNeF x y).or (oNeS x y)
theorem od_ne2 (hu : X.A.units + 64 < cLine) : OpR X (compareOp .NotEq) (rD X.K oNe2) := opR_or od_neF (od_neS hu)
end
end DL
set_option maxRecDepth 100000
set_option maxHeartbeats 4000000
namespace DL
open PySem PySem.Spec PyProof.Rows L2
variable [Lam]
theorem fnOk_none {P : Program} {w : World} {K : Frag} {mg : Str → Option Value} {base : Heap} {k ar : Nat} {f : Addr} {fd : FuncData} {ps : List Str} : FnOk P w K mg base CX0 k f fd ps (spD K ar fun _ => none) :=
  FnOk.mk (fun vs H Q E z => by
      obtain ⟨F, ds, d, _, _, _, h, _⟩ := z
      cases h)
    (fun A outer s H args us vs Q E _ _ _ _ z => by
      obtain ⟨F, ds, d, _, _, _, h, _⟩ := z
      cases h)
end DL
set_option maxRecDepth 100000
set_option maxHeartbeats 4000000
namespace DL
open PySem PySem.Spec PyProof.Rows L2 Srt PySem.W
variable [Lam]
def BltAt (mg : Str → Option Value) (base : Heap) : Prop := ∃ bm ob, mg "__builtins__" = some (.ref bm) ∧ bm ≠ builtinsNs ∧ base.get? bm = some ob ∧ ob.cls = .type "module" ∧ ob.dict = some builtinsNs ∧ ob.data = .plain
def tabOf (o : Obj) : Option Addr := match o.data with
  | .fields vs => (match (vs[11]? : Option Value) with
    | some (.ref P) => some P
    | _ => none)
  | _ => none
omit [Lam] in
theorem tabIn_of {K : Frag} {x : Str} {f c P : Addr} {oc : Value} {od : Option Addr} {fd : FuncData} {sl : Array (Option Value)} {o : Obj} (h1 : nsIn K mainGlobals x = some (some (.ref f))) (h2 : K.lookup f = some ⟨oc, od, .func fd, sl⟩) (h3 : fd.code = .ref c) (h4 : K.lookup c = some o) (h5 : tabOf o = some P) : tabIn K x = some (c, P) := by
  unfold tabIn
  rw [h1]
  dsimp only
  rw [h2]
  dsimp only
  rw [h3]
  dsimp only
  rw [h4]
  obtain ⟨a, b, d, e⟩ := o
  unfold tabOf at h5
  dsimp only at h5
  cases d <;> simp only at h5 ⊢ <;> first | (cases h5; done) | skip
  split at h5
  · rename_i hv
    rw [hv]
    cases h5
    rfl
  · cases h5
omit [Lam] in
theorem codeHdIn_of {K : Frag} {c P : Addr} {o : Obj} (h1 : K.lookup c = some o) (h2 : codeHdIn [(c, o)] c P = true) : codeHdIn K c P = true := by
  have e : List.lookup c [(c, o)] = some o := by simp [List.lookup]
  unfold codeHdIn at h2 ⊢
  rw [h1]
  rw [e] at h2
  exact h2
def spLam (K : Frag) (ar : Nat) (op : List D → Option D) (f c : Addr) (φ ψ : Heap → Prop) : Sp := fun vs H Q E => H f = some (.ext φ) ∧ H c = some (.ext ψ) ∧ spD K ar op vs H Q E
theorem lam_ok {P : Program} {w : World} {K : Frag} {mg : Str → Option Value} {base : Heap} {k : Nat} {f c : Addr} {qual : Str} {params : Arguments} {body : Expr} {scope : Scope} {pm ct : Value} {N ps : List Str} {u : FE} {φ ψ : Heap → Prop}
    (hφ : ∀ h, φ h → h.get? f = some (kla_obj "<lambda>" qual params body scope [] pm c ct)) (hψ : ∀ h, ψ h → h.CodeRec (.ref c) qual) (S : FnScope N ps scope)
    (hb : ∀ (A : Around) (outer : List Env) (s : Shared) (H : Hp) (E : XK), Room k (A.deeper (envOfC qual scope s.heap.objs.size f (.ref c))) → PE (cxOf CX0 P w K mg base N qual scope f (.ref c) A outer s H E).nox body (tD K u)) :
    FnOk P w K mg base CX0 (k + 1) f (kla_fn "<lambda>" qual params body scope [] pm (.ref c) ct) ps (spLam K ps.length (runFn N.length (sRet u)) f c φ ψ) := by
  have hpl : ps.length ≤ N.length := by have := congrArg List.length S.pre; rw [List.length_take] at this; lia
  refine ⟨fun vs H Q E h => ?_, fun A outer s H args us vs Q E hr e0 hbd r ⟨h1, h2, hsp⟩ => ?_⟩
  · obtain ⟨_, _, F, ds, d, _, rl, el, _⟩ := h
    rw [← rl.length]; exact el
  have hl : vs.length = ps.length := by
    obtain ⟨F, ds, d, _, rl, el, _⟩ := id hsp
    rw [← rl.length]; exact el
  have lim : s.heap.NoLimit := e0.mod.nolimit.keeps fun b o e => (e0.bs b o e).1
  have hkind : ∀ y ∈ ps.zip us, scope.names.lookup y.1 = some .local ∨ (scope.names.lookup y.1 = some .cell ∧ ((cellsFrom (s.heap.objs.size + 1) scope.names []).lookup y.1).isSome = true) := fun ⟨n, v⟩ hy => by
    rcases S.par n (List.of_mem_zip hy).1 with q | q
    · exact .inl q
    · exact .inr ⟨q, PySem.W.cellsFrom_some _ _ _ (.inl q)⟩
  have ho := hφ _ (e0.hok f _ h1).1
  have hcd := hψ _ (e0.hok c _ h2).1
  refine kla_callFunE hr.depth ho rfl S.co S.gen rfl hcd (hbd _ _ _ _ ?_)
  refine wpAny_newFunctionEnv_cells S.kind hkind fun env he s1 x => ?_
  subst he
  refine ⟨lim.keeps x.toInCall.keep, kla_codeExpr ?_⟩
  have I : Inv (cxOf CX0 P w K mg base N qual scope f (.ref c) A outer s H E) [] (start N vs) H s1 := inv_start S hr.hd e0 hl r x
  have hD : tD K u (start N vs) H Q := by
    obtain ⟨F0, H0, F, ρ, fl, ρ', r', hf, q⟩ := fn_end (P := P) (w := w) hpl hsp
    obtain ⟨d, h3, h4⟩ := Option.map_eq_some_iff.mp hf
    cases h4
    exact ⟨F0, H0, F, ρ, d, r', h3, fun v F' H' g' r'' => q v F' H' (r'.g.trans g') r''⟩
  refine wpAny_mono ((hb A outer s H E (hr.deeper _)).nox [] s1 (start N vs) H Q I hD) (fun v s' hs => ?_) fun e s' hs => hs
  obtain ⟨v', H', J, rv, q⟩ := hs
  exact ⟨v', H', J.os, J.bare, J.base, J.hok, rv, q⟩
theorem among_snoc {pos pos' : Pos} {c cv : Value} : ∀ (l : List Value), TriplesOk l → codeAmong pos' (l ++ [rawInt pos.line, rawInt pos.col, c]) = some cv → codeAmong pos' l = some cv ∨ cv = c := fun l h e => by
  fun_induction TriplesOk l with
  | case1 =>
    simp only [List.nil_append, codeAmong, rawInt] at e
    split at e
    · exact .inr (Option.some.inj e).symm
    · cases e
  | case2 a t b u x rest ih =>
    simp only [List.cons_append, codeAmong] at e ⊢
    split at e
    · rename_i hc; rw [if_pos hc]; exact .inl e
    · rename_i hc; rw [if_neg hc]; exact ih h e
  | case3 l h1 h2 => exact h.elim
section
variable {X : Cx} {pins : List (Addr × Obj)} {σ : St} {F H : Hp} {s : Shared}
theorem lam_eval {c P : Addr} {q : Str} {params : Arguments} {body : Expr} {scope : Scope} {pos : Pos} {Q : Value → Shared → Prop} (hcode : X.env.code = .ref c) (hd : codeHdIn X.K c P = true) (hP : (P, q) ∈ Lam.tab) (hU : ∀ p ∈ Lam.tab, p.1 = P → p.2 = q)
    (hq : X.env.qual ++ "<lambda>" = q) (B : BltAt X.mg X.base) (hdef : defaultsOf params X.env = ([], [])) (hcl : closureFor scope X.env = pure []) (I : Inv X pins σ H s) (st : SameT F H)
    (h : ∀ f c' φ ψ ct pm s' H', Inv X pins σ H' s' → Grow F H F H' → H' f = some (.ext φ) → H' c' = some (.ext ψ) → (∀ h, φ h → h.get? f = some (kla_obj "<lambda>" q params body scope [] pm c' ct)) → (∀ h, ψ h → h.CodeRec (.ref c') q) → Q (.ref f) s') :
    wpAny (model X.prog X.w) X.A (eval (.Lambda params body scope pos) X.env) Q X.xe s := by
  refine kla_eval hdef ?_
  rw [hq]
  obtain ⟨ps, e, ht, k⟩ := st.t _ hP
  have hPg : s.heap.get? P = some (tabObj ps) := I.hok P _ e
  have C : CodeHd s.heap c P := codeHd_of_K I.kIn hd
  have hg : s.heap.Ns mainGlobals X.mg := I.mod.glob.keeps I.bk
  obtain ⟨bm, ob, B1, B2, B3, B4, B5, B6⟩ := B
  have hbo := I.bk _ _ B3
  have hbP : bm ≠ P := fun z => by
    have e1 := hbo
    rw [z, hPg] at e1
    have e2 := B4
    rw [← Option.some.inj e1] at e2
    cases e2
  have hgP : mainGlobals ≠ P := fun z => by
    obtain ⟨o, es, ep, e1, e2, _⟩ := hg
    rw [z, hPg] at e1
    rw [← Option.some.inj e1] at e2
    cases e2
  have hb : s.heap.BuiltinsAt X.mg P := ⟨bm, ob, B1, B2, fun z => (by
    obtain ⟨o, es, ep, e1, e2, _⟩ := hg
    rw [← z, hbo] at e1
    rw [← Option.some.inj e1, B6] at e2
    cases e2), hbP, hbo, B4, B5, B6⟩
  cases hf : codeAmong pos ps.toList with
  | some cv =>
    obtain ⟨c', ψ, rfl, e2, e3⟩ := k pos cv hf
    refine kla_makeFunctionHit hcl I.ok.glob hg hcode C hPg ht hf hb fun ctv h' tk hk hsz => ?_
    have I1 : Inv X pins σ H { s with heap := h', toks := tk } := I.kept (t' := tk) hk
    have hn : H h'.objs.size = none := I1.hok.fresh (Nat.le_refl _)
    have I2 := I1.laid (t' := tk) (a := h'.objs.size) (o := .ext fun g => g.get? h'.objs.size = some (kla_obj "<lambda>" q params body scope [] ((X.mg "__name__").getD .none) c' ctv)) (h' := h'.push (kla_obj "<lambda>" q params body scope [] ((X.mg "__name__").getD .none) c' ctv))
      (fun b u z => Heap.get?_push_of_some _ z) (Nat.le_refl _) ⟨Heap.get?_push_size _ rfl, ⟨_, Heap.get?_push_size _ rfl⟩, fun h1 h2 z1 z2 => z2 _ z1⟩
    exact h _ c' _ ψ ctv _ _ _ I2 (Grow.own st.s hn) upd_same ((Kept.new hn).ext _ _ e2) (fun g z => z) e3
  | none =>
    refine kla_makeFunction hcl I.ok.glob hg hcode C hPg ht hf hgP hb fun c' ctv h' tk hx hge hlt hrec htb => ?_
    have hnc : H c' = none := I.hok.fresh hge
    have hcP : c' ≠ P := fun z => by rw [z, e] at hnc; cases hnc
    have nP : ∀ b o, H b = some o → (∀ ps, o ≠ .tbl ps) → b ≠ P := fun b o z n y => by rw [y, e] at z; exact n _ (Option.some.inj z).symm
    have nP' : ∀ b, H b = none → b ≠ P := fun b z y => by rw [y, e] at z; cases z
    have nc : ∀ b o, H b = some o → b ≠ c' := fun b o z y => by rw [y, hnc] at z; cases z
    have ncs : ∀ b o, s.heap.get? b = some o → b ≠ c' := fun b o z y => absurd (Heap.lt_size z) (by rw [y]; exact Nat.not_lt.mpr hge)
    let H1 : Hp := upd (upd H P (.tbl (ps ++ #[rawInt pos.line, rawInt pos.col, .ref c']))) c' (.ext fun g => g.CodeRec (.ref c') q)
    have a1 : ∀ b, b ≠ P → b ≠ c' → H1 b = H b := fun b z1 z2 => by show upd (upd H P _) c' _ b = _; rw [upd_ne z2, upd_ne z1]
    have a2 : H1 P = some (.tbl (ps ++ #[rawInt pos.line, rawInt pos.col, .ref c'])) := by show upd (upd H P _) c' _ P = _; rw [upd_ne (Ne.symm hcP), upd_same]
    have a3 : H1 c' = some (.ext fun g => g.CodeRec (.ref c') q) := upd_same
    have un : Un X.fs [] H H1 s.heap h' := ⟨fun b o z n _ _ => hx b o (nP' b n) z, fun b o z n _ _ => ⟨o.slots, hx b o (nP' b n) z⟩, fun b o z n _ => by rw [a1 b (nP' b n) (ncs b o z)]; exact n,
      fun b o z _ => by
        by_cases y : b = P
        · exact ⟨_, by rw [y]; exact htb⟩
        · exact ⟨o, hx b o y z⟩, fun b xs z => by rw [a1 b (nP b _ z nofun) (nc b _ z)]; exact z, fun b o' u z => by rw [a1 b (nP b _ z nofun) (nc b _ z)]; exact z,
      fun b ps' z => by
        by_cases y : b = P
        · subst y
          rw [e] at z
          cases z
          exact ⟨_, a2⟩
        · exact ⟨#[], by rw [a1 b y (nc b _ z), z]; simp⟩⟩
    have hok : HOk X.prog X.w H1 h' := fun b o z => by
      by_cases y : b = P
      · subst y
        rw [a2] at z
        cases z
        exact htb
      by_cases y2 : b = c'
      · subst y2
        rw [a3] at z
        cases z
        obtain ⟨c2, oc, vs, t, e2, hoc, r⟩ := hrec
        cases e2
        exact ⟨⟨_, oc, vs, t, rfl, hoc, r⟩, ⟨_, hoc⟩, fun h1 h2 ⟨c3, o3, v3, t3, e3, h3, r3⟩ z2 => by cases e3; exact ⟨_, o3, v3, t3, rfl, z2 _ h3, r3⟩⟩
      rw [a1 b y y2] at z
      refine (I.hok b o z).stay (fun b' u hb' z' => hx b' u ?_ z') (fun b' z' => by rw [a1 b' (nP b' _ z' nofun) (nc b' _ z')]; exact z') fun b' xs z' => by rw [a1 b' (nP b' _ z' nofun) (nc b' _ z')]; exact z'
      rcases hb' with z1 | z1
      · rw [z1]; exact y
      · exact nP b' _ z1 nofun
    have I1 : Inv X pins σ H1 { s with heap := h', toks := tk } := I.un (t' := tk) un hok
    have hn : H1 h'.objs.size = none := I1.hok.fresh (Nat.le_refl _)
    have I2 := I1.laid (t' := tk) (a := h'.objs.size) (o := .ext fun g => g.get? h'.objs.size = some (kla_obj "<lambda>" q params body scope [] ((X.mg "__name__").getD .none) c' ctv)) (h' := h'.push (kla_obj "<lambda>" q params body scope [] ((X.mg "__name__").getD .none) c' ctv))
      (fun b u z => Heap.get?_push_of_some _ z) (Nat.le_refl _) ⟨Heap.get?_push_size _ rfl, ⟨_, Heap.get?_push_size _ rfl⟩, fun h1 h2 z1 z2 => z2 _ z1⟩
    have hfP : h'.objs.size ≠ P := fun z => by rw [z, a2] at hn; cases hn
    have kp : Kept H H1 := ⟨fun b xs z => by rw [a1 b (nP b _ z nofun) (nc b _ z)]; exact z, fun b φ z => by rw [a1 b (nP b _ z nofun) (nc b _ z)]; exact z, fun {b} z => by
        by_cases y : b = P
        · subst y; rw [a2] at z; cases z
        by_cases y2 : b = c'
        · rw [y2]; exact hnc
        rw [a1 b y y2] at z; exact z, fun t p hp => by
        obtain ⟨ps1, e1, t1, k1⟩ := t p hp
        by_cases y : p.1 = P
        · have e2 := hU p hp y
          rw [y, e] at e1
          cases e1
          rw [y]
          refine ⟨_, a2, by simpa using TriplesOk_snoc pos.line pos.col (.ref c') ps.toList ht, fun pos' cv z => ?_⟩
          rw [Array.toList_append] at z
          rcases among_snoc ps.toList ht (by simpa using z) with z | z
          · obtain ⟨c2, φ, z1, z2, z3⟩ := k1 pos' cv z
            exact ⟨c2, φ, z1, by rw [a1 c2 (nP _ _ z2 nofun) (nc _ _ z2)]; exact z2, z3⟩
          · exact ⟨c', _, z, a3, fun g z => by rw [e2]; exact z⟩
        · refine ⟨ps1, by rw [a1 _ y (nc _ _ e1)]; exact e1, t1, fun pos' cv z => ?_⟩
          obtain ⟨c2, φ, z1, z2, z3⟩ := k1 pos' cv z
          exact ⟨c2, φ, z1, by rw [a1 c2 (nP _ _ z2 nofun) (nc _ _ z2)]; exact z2, z3⟩⟩
    have g1 : Grow F H F H1 := ⟨.refl _, kp, fun b o z => by
        have y : b ≠ P := fun y => by have := st.f _ hP; rw [show b = P from y] at z; rw [z] at this; cases this
        rw [a1 b y (nc b _ (st.s b o z))]; exact st.s b o z, fun _ z => .inl z⟩
    exact h _ c' _ _ ctv _ _ _ I2 (g1.trans (Grow.own g1.fh hn)) upd_same ((Kept.new hn).ext _ _ a3) (fun g z => z) fun g z => z
end
end DL
set_option maxRecDepth 100000
set_option maxHeartbeats 4000000
namespace DL
open PySem PySem.Spec PyProof.Rows L2 Srt PySem.W
variable [Lam]
section
variable {X : Cx} {pins : List (Addr × Obj)} {σ : St} {F H : Hp} {s : Shared}
theorem ld_sortL {e : Expr} {p kp pos lpos : Pos} {params : Arguments} {body : Expr} {scope : Scope} {k k' : Nat} {c P : Addr} {q : Str} {N ps : List Str} {u : FE} {fa : FA} (hcode : X.env.code = .ref c) (hd : codeHdIn X.K c P = true) (hP : (P, q) ∈ Lam.tab)
    (hU : ∀ p ∈ Lam.tab, p.1 = P → p.2 = q) (B : BltAt X.mg X.base) (hr : Room k' X.A) (hgs : Gl X "sorted") (hms : X.mg "sorted" = none) (ha : PA X [e] (tDA X.K fa)) (S : FnScope N ps scope)
    (hb : ∀ (f c' : Addr) (A : Around) (outer : List Env) (s : Shared) (H : Hp) (E : XK), Room k (A.deeper (envOfC q scope s.heap.objs.size f (.ref c'))) → PE (cxOf CX0 X.prog X.w X.K X.mg X.base N q scope f (.ref c') A outer s H E).nox body (tD X.K u))
    (hbd : ∀ (pm cdv ct : Value) (us : List Value), us.length = ps.length → bindArgs (kla_fn "<lambda>" q params body scope [] pm cdv ct) ⟨us, []⟩ = pure (ps.zip us)) (hk : k + 3 ≤ k') (h1 : ps.length = 1)
    (hq : X.env.qual ++ "<lambda>" = q := by rfl) (hdef : defaultsOf params X.env = ([], []) := by rfl) (hcl : closureFor scope X.env = pure [] := by rfl) (he : backTo pos (starEach [e] X.env) = (false, eval e X.env) :: backTo pos (starEach [] X.env) := by rfl)
    (hpl : (backTo pos (starEach [e] X.env)).any (·.1) = false := by rfl) : PE X (.Call (.Name "sorted" p) [e] [⟨some "key", .Lambda params body scope lpos, kp⟩] pos) (tL X.K (lCall (oSortK1 (runFn N.length (sRet u))) fa)) := by
  intro pins s σ H Q I h
  obtain ⟨F0, H0, F, ρ, ds, r, hf, q'⟩ := h
  obtain ⟨es, h3, h2⟩ := Option.bind_eq_some_iff.mp hf
  unfold oSortK1 at h2
  split at h2
  · rename_i d
    refine wpAny_Call_Name_kw (ld_blt I hgs hms boot_sorted ?_ (by decide) (by decide))
    refine callWith_kw (thn (ha pos pins s σ H (fun vs H1 => ∃ F1, Grow F H F1 H1 ∧ RepL X.K F1 [d] vs) I ⟨F0, H0, F, ρ, [d], r, h3, fun vs F1 H1 g1 r1 => ⟨F1, g1, r1⟩⟩) fun us s1 ⟨vs, H1, I1, rv, F1, g1, r1⟩ => ?_) he hpl rfl rfl
    refine kws_cons (lam_eval hcode hd hP hU hq B hdef hcl I1 (r.sameT g1) fun f c' φ ψ ct pm s2 H2 I2 g2 hf' hc' hφ hψ => kws_nil ?_)
    obtain ⟨x, rfl, rx⟩ := rep1 r1
    obtain ⟨v, rfl, ru⟩ := vals1 rv
    cases d <;> simp only [oSortK] at h2 <;> first | (cases h2; done) | skip
    rename_i ds'
    obtain ⟨a, ys, rfl, _⟩ := rep_lst.mp rx
    cases ru
    exact sortK_run (lam_ok hφ hψ S (hb f c')) (fun F' H' dv kd x Q' g' rx' hk' q'' => ⟨g'.hh.ext _ _ hf', g'.hh.ext _ _ hc', F', [dv], kd, ((r.sameT g1).grow g2).grow g', .cons rx' .nil, h1.symm, hk', q''⟩) (.all (hbd pm _ ct)) hr (by omega) I2 g2.fh (rx.mono g2.ff) (by simp only [oSortK]; exact h2)
      fun a ys F3 H3 g3 k1 k2 k3 k4 => q' a ys F3 H3 (g1.trans (g2.trans g3)) k1 (g1.hh.free (g2.hh.free k2)) k3 k4
  · cases h2
end
structure Fun3 (K : Frag) (x qual : Str) (st : Stmt) (dV : Value) (f : Addr) (fd : FuncData) (c P : Addr) : Prop where
  ex : ∃ (oc : Value) (od : Option Addr) (kV doc pm : Value) (an : Option Addr) (ct : Value) (osl : Array (Option Value)),
    fd = PySem.W.fnOf x qual (defArgs st) (defBody st) (defScope st) dV kV doc pm an (.ref c) ct ∧ K.lookup f = some ⟨oc, od, .func fd, osl⟩ ∧ PySem.W.codeIn K (.ref c) qual = true
  hd : codeHdIn K c P = true
  kp : PySem.W.keepIn K (.ref f) = true
section
variable {P : Program} {w : World} {K : Frag} {mg : Str → Option Value} {base : Heap} {x qual : Str} {st : Stmt} {dV : Value} {f c T : Addr} {fd : FuncData} {N ps : List Str}
theorem Fun3.okn {k n ar k1 : Nat} {u : FS} (F : Fun3 K x qual st dV f fd c T) (S : FnScope N ps (defScope st)) (hn : N.length = n) (ha : ps.length = ar) (hk : k + 1 = k1)
    (hb : ∀ (A : Around) (outer : List Env) (s : Shared) (H : Hp) (E : XK), Room k (A.deeper (envOfC qual (defScope st) s.heap.objs.size f (.ref c))) → PSs (cxOf CX0 P w K mg base N qual (defScope st) f (.ref c) A outer s H E).nox (defBody st) (tDS K u)) :
    FnOk P w K mg base CX0 k1 f fd ps (spD K ar (runFn n u)) := by
  subst hn ha hk
  obtain ⟨oc, od, kV, doc, pm, an, ct, osl, rfl, lk, hcd⟩ := F.ex
  exact fn_ok lk hcd S fun A outer s H E hr => hb A outer s H E hr
theorem fun3_mk {oc : Value} {od an : Option Addr} {osl : Array (Option Value)} {kV doc pm ct : Value} (l : K.lookup f = some ⟨oc, od, .func (PySem.W.fnOf x qual (defArgs st) (defBody st) (defScope st) dV kV doc pm an (.ref c) ct), osl⟩)
    (cd : PySem.W.codeIn K (.ref c) qual = true) (hd : codeHdIn K c T = true) (k : PySem.W.keepIn K (.ref f) = true) : Fun3 K x qual st dV f (PySem.W.fnOf x qual (defArgs st) (defBody st) (defScope st) dV kV doc pm an (.ref c) ct) c T := ⟨⟨oc, od, kV, doc, pm, an, ct, osl, rfl, l, cd⟩, hd, k⟩
theorem Fun3.bindsTo (F : Fun3 K x qual st dV f fd c T) {P : FuncData → Prop} (h : ∀ (kV doc pm : Value) (an : Option Addr) (cdv ct : Value), P (PySem.W.fnOf x qual (defArgs st) (defBody st) (defScope st) dV kV doc pm an cdv ct)) : P fd := by
  obtain ⟨oc, od, kV, doc, pm, an, ct, osl, rfl, lk, hcd⟩ := F.ex
  exact h kV doc pm an _ ct
end
theorem law_callT {P : Program} {w : World} {K : Frag} {mg mb : Str → Option Value} {k : Nat} {fa a : Addr} {fd : FuncData} {x : Str} {s₁ : Shared} {vs : List Value} {ns : List Int} {tabs : List (Addr × Addr)} (hT : TabsAt tabs s₁.heap) (hL : ∀ p ∈ Lam.tab, p.1 ∈ tabs.map (·.2)) (hKT : ∀ p ∈ tabs, K.lookup p.2 = none)
    (KX : K.In s₁.heap) (hns : s₁.heap.Ns mainGlobals mg) (hb : s₁.heap.Ns builtinsNs mb) (hbb : ∀ x : Str, x ≠ "__name__" → mb x = bootBuiltins x) (hlim : s₁.heap.NoLimit) (hg : s₁.gens = #[])
    (ha : s₁.heap.get? a = some { cls := .type "list", data := .seq vs.toArray }) (hi : IntsAre vs ns) (hl : ns.length ≤ 63) (hr : Room k callerA)
    (hB : BltAt mg s₁.heap) (Fn : ∀ base : Heap, K.In base → base.Ns mainGlobals mg → BltAt mg base → FnOk P w K mg base CX0 k fa fd [x] (spLaw K)) (hbind : ∀ (s : Shared) (u : Value), BindsTo s fd ⟨[u], []⟩ [(x, u)]) :
    codeAny (model P w) callerA (.call (.ref fa) ⟨[.ref a], []⟩) (fun r s' => r = .ok (.ret (.bool true)) ∧ OldK s₁.heap s'.heap ∧ s'.os = s₁.os ∧ AllBare s'.gens) s₁ := by
  have rv := vals_ints hi
  have lenV := hi.length
  have aT : a ∉ tabs.map (·.2) := fun z => by
    obtain ⟨p, hp, e⟩ := List.mem_map.mp z
    have e1 := (hT p hp).2
    rw [e, ha] at e1
    cases e1
  let G : Hp := fun b => if b = a ∧ K.lookup a = none then some (.frz { cls := .type "list", data := .seq vs.toArray } (.lst (ns.map V.int))) else none
  let H : Hp := fun b => if b ∈ tabs.map (·.2) then some (.tbl #[]) else G b
  have hG : ∀ b o, G b = some o → b = a ∧ K.lookup a = none ∧ o = .frz { cls := .type "list", data := .seq vs.toArray } (.lst (ns.map V.int)) := fun b o z => by
    by_cases y : b = a ∧ K.lookup a = none
    · exact ⟨y.1, y.2, (Option.some.inj ((if_pos y).symm.trans z)).symm⟩
    · have := (if_neg y).symm.trans z; cases this
  have hH1 : ∀ b, b ∈ tabs.map (·.2) → H b = some (.tbl #[]) := fun b z => if_pos z
  have hH2 : ∀ b, b ∉ tabs.map (·.2) → H b = G b := fun b z => if_neg z
  have tabAt : ∀ b, b ∈ tabs.map (·.2) → ∃ c, CodeHd s₁.heap c b ∧ s₁.heap.get? b = some (tabObj #[]) ∧ K.lookup b = none := fun b z => by
    obtain ⟨p, hp, rfl⟩ := List.mem_map.mp z
    exact ⟨p.1, (hT p hp).1, (hT p hp).2, hKT p hp⟩
  have gH : Same G H := fun b o z => by
    obtain ⟨rfl, _, _⟩ := hG b o z
    rw [hH2 _ aT]; exact z
  have hok : HOk P w H s₁.heap := fun b u z => by
    by_cases y : b ∈ tabs.map (·.2)
    · rw [hH1 b y] at z
      cases z
      exact (tabAt b y).elim fun c z => z.2.1
    · rw [hH2 b y] at z
      obtain ⟨rfl, _, rfl⟩ := hG b u z
      exact ⟨ha, by rw [List.length_map]; exact Nat.le_trans hl (by decide), vs, _, rv, ha⟩
  have base_of : ∀ {b : Addr} {o : Obj}, s₁.heap.get? b = some o → H b = none → (hidT s₁.heap H).get? b = some o := fun e n => hidT_get e n
  have noA : ∀ {b : Addr} {o : Obj} {es : Array DictEntry} {ep : Nat}, s₁.heap.get? b = some o → o.data = .dict es ep → H b = none := fun {b o es ep} e d => by
    by_cases y : b ∈ tabs.map (·.2)
    · obtain ⟨c, _, e1, _⟩ := tabAt b y
      rw [e] at e1
      rw [Option.some.inj e1] at d
      cases d
    · rw [hH2 b y]
      cases q : G b with
      | none => rfl
      | some u =>
        obtain ⟨rfl, _, _⟩ := hG b u q
        rw [ha] at e
        rw [← Option.some.inj e] at d
        cases d
  have nsK : ∀ {b : Addr} {m : Str → Option Value}, s₁.heap.Ns b m → (hidT s₁.heap H).Ns b m := fun {b m} ⟨o, es, ep, e, d, r⟩ => ⟨o, es, ep, base_of e (noA e d), d, r⟩
  have hKb : K.In (hidT s₁.heap H) := fun b o e => base_of (KX b o e) (by
    by_cases y : b ∈ tabs.map (·.2)
    · obtain ⟨c, _, _, e1⟩ := tabAt b y
      rw [e1] at e; cases e
    · rw [hH2 b y]
      cases q : G b with
      | none => rfl
      | some u =>
        obtain ⟨rfl, e1, _⟩ := hG b u q
        rw [e1] at e; cases e)
  have hM : Mod K mg (hidT s₁.heap H) := ⟨hKb, nsK hns, ⟨mb, nsK hb, hbb⟩, let ⟨mc, h1, h2⟩ := hlim; ⟨mc, nsK h1, h2⟩⟩
  have e0 : Env0 P w K mg (hidT s₁.heap H) callerA [] s₁ H := ⟨rfl, hM, fun b o e => of_hidT e, Nat.le_of_eq (hidT_size _ _), trivial, fun b hb => absurd (show b ∈ ([] : List Addr) from hb) (by simp), hok, .of_eq hg⟩
  have hS : SqL K G a (ns.map V.int) := by
    cases hk : K.lookup a with
    | some o =>
      have e := KX a o hk
      rw [ha] at e
      cases e
      exact .inr ⟨_, vs.toArray, _, hk, rfl, rfl, rfl, by rw [List.size_toArray, lenV]; exact Nat.le_trans hl (by decide), by simpa using rv⟩
    | none => exact .inl (.inr ⟨{ cls := .type "list", data := .seq vs.toArray }, if_pos ⟨rfl, hk⟩⟩)
  have sT : SameT G H := ⟨gH, fun p hp => ⟨#[], hH1 _ (hL p hp), trivial, fun pos cv z => by simp [codeAmong] at z⟩, fun p hp => by
    cases q : G p.1 with
    | none => rfl
    | some u =>
      obtain ⟨e, _, _⟩ := hG _ u q
      exact absurd (e ▸ hL p hp) aT⟩
  have hBb : BltAt mg (hidT s₁.heap H) := by
    obtain ⟨bm, ob, B1, B2, B3, B4, B5, B6⟩ := hB
    refine ⟨bm, ob, B1, B2, base_of B3 ?_, B4, B5, B6⟩
    by_cases y : bm ∈ tabs.map (·.2)
    · obtain ⟨c, _, e1, _⟩ := tabAt bm y
      rw [B3] at e1
      rw [Option.some.inj e1] at B4
      cases B4
    · rw [hH2 bm y]
      cases q : G bm with
      | none => rfl
      | some u =>
        obtain ⟨rfl, _, _⟩ := hG bm u q
        rw [ha] at B3
        rw [← Option.some.inj B3] at B6
        cases B6
  refine codeAny_mono ((Fn _ hKb (nsK hns) hBb).run callerA [] s₁ H ⟨[.ref a], []⟩ [.ref a] [.ref a] (fun v _ => v = .bl true) E0 hr e0 (hbind s₁ (.ref a)) (.cons rfl .nil) ⟨a, ns, G, rfl, sT, hS, hl, fun _ => rfl⟩) fun r s' h => ?_
  cases r with
  | error e => exact h.elim
  | ok fl =>
    cases fl with
    | next => exact False.elim h
    | brk => exact False.elim h
    | cont => exact False.elim h
    | ret u =>
      obtain ⟨v, H', os, bare, un, hok', r', q⟩ := h
      have q' : v = .bl true := q
      subst q'
      obtain rfl : u = Value.bool true := r'
      have tab' : ∀ b, b ∈ tabs.map (·.2) → ∃ more, s'.heap.get? b = some (tabObj (#[] ++ more)) := fun b y => by
        obtain ⟨more, e⟩ := un.tbls b #[] (hH1 b y)
        exact ⟨more, hok' b _ e⟩
      have keep : ∀ b o, b ∉ tabs.map (·.2) → s₁.heap.get? b = some o → s'.heap.get? b = some o := fun b o y e => by
        cases q : H b with
        | none => exact un.keep b o e q (by intro z; exact absurd (show b ∈ ([] : List Addr) from z) (by simp)) (by simp)
        | some u =>
          have q2 := q
          rw [hH2 b y] at q2
          obtain ⟨rfl, _, rfl⟩ := hG b u q2
          obtain ⟨e2, _⟩ := hok' _ _ (un.frzs _ _ _ q)
          rw [ha] at e
          rw [← Option.some.inj e]
          exact e2
      refine ⟨rfl, ⟨fun b o e => ?_, fun b o e => ?_⟩, os, bare⟩
      · by_cases y : b ∈ tabs.map (·.2)
        · obtain ⟨c, C, e1, _⟩ := tabAt b y
          rw [e] at e1
          obtain rfl := Option.some.inj e1
          obtain ⟨more, e2⟩ := tab' b y
          exact .inr (.inl ⟨(C.tab e).isCodeTable, rfl, #[], more, rfl, e2⟩)
        · exact .inl (keep b o y e)
      · by_cases y : b ∈ tabs.map (·.2)
        · obtain ⟨more, e2⟩ := tab' b y
          exact ⟨_, e2⟩
        · exact ⟨o, keep b o y e⟩
omit [Lam] in
theorem walk63L {l : PySem.W.OpenLaw} {k : Nat} {x : Str} {q : Program} {loose : List Str} {XP : (Str → Option Value) → Heap → Prop} {YP : World → Heap → Prop} {d : DefRec} {K : Params → Frag} (hn : l.most = some 63) (hdf : d.params.defaults = []) (hk : Room k callerA)
    (hY : ∀ (w : World) (h : Heap), YP w h → (K w.params).In h)
    (F : ∀ (w : World) (mg : Str → Option Value) (fa : Addr) (h : Heap), (K w.params).In h → h.Ns mainGlobals mg → mg d.name = some (.ref fa) →
      ∃ (L : Lam) (tabs : List (Addr × Addr)) (fd : FuncData), (∀ p ∈ L.tab, p.1 ∈ tabs.map (·.2)) ∧ (∀ p ∈ tabs, (K w.params).lookup p.2 = none ∧ ∃ y : Str, ((recsOf q).find? (fun e => e.name == y)).isSome = true ∧ tabIn (K w.params) y = some p) ∧
        (∀ (s : Shared) (u : Value), BindsTo s fd ⟨[u], []⟩ [(x, u)]) ∧ ∀ base : Heap, (K w.params).In base → base.Ns mainGlobals mg → BltAt mg base → FnOk l.prog w (K w.params) mg base CX0 k fa fd [x] (spLaw (K w.params))) :
    PySem.W.WalkO q loose XP YP l.row.toRowW d [] (fun f vs => PySem.call f vs) := by
  refine Att.attach_call hn hdf fun w s₀ s₁ mg mb fa o pm cd doc a vs ns G Y ho hd hcd hmg hobj hints hlen hg => ?_
  have KX := hY w _ Y
  obtain ⟨L, tabs, fd, hL, hT, hb, hF⟩ := F w mg fa _ KX G.T.g hmg
  refine law_callT (tabs := tabs) (fun p hp => ?_) hL (fun p hp => (hT p hp).1) KX G.T.g G.T.b G.T.builtins G.T.nolimit hg hobj hints hlen hk (let ⟨bm, ob, b1, b2, b3, b4, b5, b6⟩ := G.T.bmain; ⟨bm, ob, b1, b2, b3, b4, b5, b6⟩) hF hb
  obtain ⟨_, y, e1, e2⟩ := hT p hp
  obtain ⟨d', e3⟩ := Option.isSome_iff_exists.mp e1
  exact tab_of G.T KX e3 e2
end DL
set_option maxRecDepth 100000
set_option maxHeartbeats 4000000
namespace DL
open PySem PySem.Spec PyProof.Rows L2 Srt PySem.W
variable [Lam]
set_option maxRecDepth 8000 in
omit [Lam] in
theorem ext_list (l : Addr) (items : Array Value) (n : Nat) (b : Addr) (items2 : Array Value) (n2 : Nat) (sl : Array (Option Value)) (hc0 : ¬(!items.isEmpty && Builtin.List.listTooLong (items.size + items2.size)) = true) (hc1 : items.size ≤ sizeLine) (hs2 : items.size + items2.size ≤ sizeLine + 1) :
    Meets (Builtin.«list.extend» ⟨[.ref l, .ref b], []⟩) (fun _ R s => s.heap.get? l = some { cls := .type "list", dict := none, data := .seq items n, slots := #[] } ∧ s.heap.get? b = some { cls := .type "list", dict := none, data := .seq items2 n2, slots := sl } ∧
      R (.ok (.ret Value.none)) { s with heap := s.heap.update l (Obj.mapSeq fun x => x ++ items2), toks := s.toks }) :=
  .of_wp fun prog w A R s h => by
    obtain ⟨hp, g, d, tk, os⟩ := s
    obtain ⟨hl, hb, h⟩ := h
    have hz' : (items ++ items2).size ≤ sizeLine + 1 := by rw [Array.size_append]; exact hs2
    have f3 := sub_list_list
    wp_walk using (wpAny_updateSeq hl rfl (hz := hc1) (_hz' := hz')), wpAny_loadPart' hl, wpAny_loadPart' hb
    exact ⟨_, rfl, h⟩
section
variable {X : Cx}
omit [Lam] in
theorem mt_extG : MtM X "list.extend" (fun x vs H Q => ∃ l b xs zs, x = .ref l ∧ vs = [.ref b] ∧ H l = some (.lst xs) ∧ SqL X.K H b zs ∧ xs.length + zs.length ≤ sizeLine ∧ Q .non (upd H l (.lst (xs ++ zs)))) := by
  intro pins s σ H x vs v us Q I rx rv h
  obtain ⟨l, b, xs, zs, rfl, rfl, hH, hB, hz, q⟩ := h
  cases rx
  obtain ⟨u, rfl, ru⟩ := rv.one
  cases ru
  obtain ⟨z, its, n, r, hl, e⟩ := I.lstM hH
  obtain ⟨its2, r2, ⟨o, n2, e2, c1, c2, c3⟩, hl2⟩ := I.list hB
  obtain ⟨oc, od, oda, osl⟩ := o
  dsimp only at c1 c2 c3
  subst c1 c2 c3
  have hl1 := r.length
  have hl3 := r2.length
  have hsz : its.toArray.size + its2.toArray.size ≤ sizeLine := by rw [List.size_toArray, List.size_toArray]; lia
  have hlong : ¬ (!its.toArray.isEmpty && Builtin.List.listTooLong (its.toArray.size + its2.toArray.size)) = true := by
    rw [notLongL hsz, Bool.and_false]
    exact Bool.false_ne_true
  refine call_meets F.slot_list_extend ⟨_, e, rfl⟩ F.entry_list_extend (F.args_list_extend_2 _ _)
    (ext_list l its.toArray n b its2.toArray n2 osl hlong (by rw [List.size_toArray]; lia) (by lia)) ⟨e, e2, ?_⟩
  refine ⟨.non, _, I.lset (its' := its ++ its2) hH e (by simp) (r.append r2) ?_, rfl, q⟩
  rw [List.length_append]
  lia
def sExt (i : Nat) (f : FE) : FS := fun ρ => (owAt i ρ).bind fun ds => (f ρ).bind fun d => match d with
  | .lst es => if ds.length + es.length ≤ lim then some (.nx, ρ.set i (some (.ow (ds ++ es)))) else none
  | _ => none
theorem sd_ext {i : Nat} {x : Str} {e : Expr} {f : FE} {px apos cpos pos : Pos} (hv : PE X (.Name x px) (tVar i)) (he : PE X e (tD X.K f))
    (hbase : attributeBase (.Name x px) "extend" X.env (eval (.Name x px) X.env) = eval (.Name x px) X.env := by rfl)
    (hfew : ((backTo cpos (starEach [e] X.env)).all (fun x => !x.1) && (backToKw cpos (keywordEach [] X.env)).all (fun x => x.1.isSome) && decide ([e].length + ([] : List Keyword).length + (if ([] : List Keyword).isEmpty then 0 else 1) < 30)) = true := by rfl)
    (hline : (apos.endLine == cpos.line) = true := by rfl) (hse : starEach [e] X.env = (false, eval e X.env) :: starEach [] X.env := by rfl)
    (hs : swapsWith (.Call (.Attribute (.Name x px) "extend" apos) [e] [] cpos) none pos.line X.env = pure false := by rfl) : PS X (.Expr (.Call (.Attribute (.Name x px) "extend" apos) [e] [] cpos) pos) (tDS X.K (sExt i f)) :=
  ps_imp (ps_expr (pe_bm PySem.F.plainAttrs_list PySem.F.slot_list_extend PySem.F.type_list_extend mt_extG hv (pa_cons he pa_nil hse) hbase hfew hline hse rfl) hs) fun D σ H ⟨F0, H0, F, ρ, fl, ρ', r, hf, q⟩ => by
    obtain ⟨ds, h1, hf⟩ := Option.bind_eq_some_iff.mp hf
    obtain ⟨d, h2, h3⟩ := Option.bind_eq_some_iff.mp hf
    have h1 := owAt_some h1
    cases d <;> simp only at h3 <;> first | (cases h3; done) | skip
    rename_i es
    split at h3
    · rename_i hl
      cases h3
      obtain ⟨a, xs, e1, e2, e3, e4, e5⟩ := r.ow i ds h1
      refine ⟨.ref a, e1, .inl ⟨rfl, xs, SqL.of e2⟩, F0, H0, F, ρ, _, r, h2, fun v F' H' g' r' => ?_⟩
      have r2 := r.grow g'
      obtain ⟨b, zs, rfl, k1, k2⟩ := rep_lst.mp r'
      refine ⟨a, b, xs, zs, rfl, rfl, g'.hh.lst _ _ e2, g'.fh.seq k1, Nat.le_trans (by rw [← e5.length, ← k2.length]; exact hl) (by decide), ?_⟩
      exact q _ F' _ g'.ff (r2.wrt h1 e1 ((e5.mono g'.ff).append k2))
    · cases h3
end
end DL
set_option maxRecDepth 100000
set_option maxHeartbeats 1000000
namespace DL
open PySem L2
theorem dec_int' (a b : Int) : decide (V.int a = V.int b) = decide (a = b) := decide_eq_decide.mpr ⟨fun h => by injection h, fun h => by rw [h]⟩
theorem oEq_int (a b : Int) : oEq (.int a) (.int b) = some (.bl (decide (a = b))) := by
  simp only [oEq, oEqF, flD, scal, Option.bind_some, if_true, Option.some_or, dec_int']
theorem oNe_int (a b : Int) : oNeF (.int a) (.int b) = some (.bl (!decide (a = b))) := by
  simp only [oNeF, flD, scal, Option.bind_some, if_true, dec_int']
theorem oMod_int (a b : Int) (h : 0 < b) : oMod (.int a) (.int b) = some (.int (a % b)) := by simp [oMod, oI, h]
theorem oDiv_int (a b : Int) (h : 0 < b) (h2 : b < 1073741824) : oDiv (.int a) (.int b) = some (.int (a / b)) := by simp [oDiv, oI, h, h2]
theorem oPlus_int (a b : Int) : oPlus (.int a) (.int b) = some (.int (a + b)) := rfl
theorem oSub_int (a b : Int) : oSub (.int a) (.int b) = some (.int (a - b)) := rfl
theorem oLt_int (a b : Int) : oLt' (.int a) (.int b) = some (.bl (decide (a < b))) := rfl
theorem oGt_int (a b : Int) : oGt (.int a) (.int b) = some (.bl (decide (b < a))) := rfl
theorem oGe_int (a b : Int) : oGe (.int a) (.int b) = some (.bl (decide (b ≤ a))) := rfl
theorem oPlus_tup (xs ys : List D) (h : xs.length + ys.length ≤ 1000000) : oPlus (.tup xs) (.tup ys) = some (.tup (xs ++ ys)) := by
  show (oAdd (.tup xs) (.tup ys)).or (oCat (.tup xs) (.tup ys)) = _
  simp only [oAdd, oI, Option.none_or, oCat, lim, if_pos h]
theorem oShl_int (a b : Int) (h : 0 ≤ b) (h2 : b ≤ 1000000) (h3 : a.natAbs < 2 ^ 64) : oShl (.int a) (.int b) = some (.int (a * 2 ^ b.toNat)) := by simp [oShl, oI, h, h2, h3]
theorem oShr_int (a b : Int) (h : 0 ≤ b) : oShr (.int a) (.int b) = some (.int (a / 2 ^ b.toNat)) := by simp [oShr, oI, h]
theorem oPow_int (a b : Int) (h : 0 ≤ b) (h2 : b ≤ 1000000) (h3 : a.natAbs < 2 ^ 64) : oPow (.int a) (.int b) = some (.int (a ^ b.toNat)) := by simp [oPow, oI, h, h2, h3]
theorem oSum_ints (ns : List Int) : oSum [.lst (ns.map .int)] = some (.int ns.sum) := by simp [oSum, o1L, intsD_map]
theorem atI_pos {α : Type} {xs : List α} {i : Int} (h0 : 0 ≤ i) : atI xs i = xs[i.toNat]? := by
  unfold atI ixN
  rw [if_pos h0]
  by_cases h : i < xs.length
  · rw [if_pos h]; rfl
  · rw [if_neg h, List.getElem?_eq_none (by lia)]; rfl
theorem atI_neg1 {α : Type} (xs : List α) : atI xs (-1) = xs.getLast? := by
  unfold atI ixN
  rw [if_neg (by decide)]
  cases xs with
  | nil => rfl
  | cons a r =>
    rw [if_pos (by simp only [List.length_cons]; lia)]
    show (a :: r)[((-1 : Int) + ((a :: r).length : Nat)).toNat]? = _
    rw [List.getLast?_eq_getElem?]
    congr 1
    simp only [List.length_cons]; lia
section
variable {b : FB} {body : FS} {d : D} {ds : List D} {ρ ρ1 ρ2 : Rho}
theorem runFor_nx (h1 : b d ρ = some ρ1) (h2 : body ρ1 = some (.nx, ρ2)) : runFor b body (d :: ds) ρ = runFor b body ds ρ2 := by simp only [runFor, h1, h2, Option.bind_some]
end
theorem runComp_eq {b : FB} {c : FT} {f : FE} {ρ : Rho} (p : D → Bool) (g : D → D) : ∀ {ds : List D}, (∀ d ∈ ds, ∃ ρ1, b d ρ = some ρ1 ∧ c ρ1 = some (p d) ∧ (p d = true → f ρ1 = some (g d))) → runComp b c f ρ ds = some ((ds.filter p).map g)
  | [], _ => rfl
  | d :: ds, h => by
    obtain ⟨ρ1, e1, e2, e3⟩ := h d List.mem_cons_self
    have ih := runComp_eq p g fun e he => h e (List.mem_cons_of_mem _ he)
    simp only [runComp, e1, e2, Option.bind_some]
    cases hp : p d with
    | true => simp only [if_true, e3 hp, Option.bind_some, ih, Option.map_some, List.filter_cons, hp, List.map_cons]
    | false => simp only [Bool.false_eq_true, if_false, ih, List.filter_cons, hp]
theorem runComp_map {b : FB} {f : FE} {ρ : Rho} (g : D → D) {ds : List D} (h : ∀ d ∈ ds, ∃ ρ1, b d ρ = some ρ1 ∧ f ρ1 = some (g d)) : runComp b cTrue f ρ ds = some (ds.map g) := by
  have := runComp_eq (b := b) (c := cTrue) (f := f) (ρ := ρ) (fun _ => true) g (ds := ds) fun d hd => let ⟨ρ1, e1, e2⟩ := h d hd; ⟨ρ1, e1, rfl, fun _ => e2⟩
  rw [List.filter_eq_self.mpr (fun _ _ => rfl)] at this
  exact this
theorem rangeD_succ (lo : Int) (n : Nat) : rangeD lo (n + 1) = .int lo :: rangeD (lo + 1) n := by
  unfold rangeD
  rw [List.range_succ_eq_map, List.map_cons, List.map_map]
  congr 1
  · simp
  · apply List.map_congr_left
    intro a _
    simp only [Function.comp, Nat.succ_eq_add_one, Int.natCast_add]
    congr 1
    lia
theorem rangeD_len (lo : Int) (n : Nat) : (rangeD lo n).length = n := by simp [rangeD]
theorem iR1_int (fa : FA) (ρ : Rho) (j : Int) (h : fa ρ = some [.int j]) (h1 : -(2 ^ 62) ≤ j) (h2 : j < 2 ^ 62) : iR1 fa ρ = some (rangeD 0 j.toNat) := by
  simp only [iR1, h, Option.bind_some, decide_eq_true h1, decide_eq_true h2, Bool.and_self, if_true]
end DL
set_option maxRecDepth 100000
set_option maxHeartbeats 1000000
namespace DL
open PySem L2
section
variable {ρ ρ1 ρ' : Rho} {f g : FE} {d x y z : D} {i n m ar : Nat} {fa fk : FA} {ds es : List D} {t t2 : FT} {c : Bool} {u w : FS} {r : Option (Fl × Rho)}
theorem x_c : eC d ρ = some d := rfl
theorem x_v (h : ρ[i]? = some (some (.fz d))) : eV i ρ = some d := by unfold eV; rw [h]
theorem x_op {o : D → D → Option D} (h1 : f ρ = some x) (h2 : g ρ = some y) (h3 : o x y = some z) : eOp o f g ρ = some z := by unfold eOp; rw [h1, Option.bind_some, h2, Option.bind_some, h3]
theorem x_un {o : D → Option D} (h1 : f ρ = some x) (h3 : o x = some z) : eUn o f ρ = some z := by unfold eUn; rw [h1, Option.bind_some, h3]
theorem x_nil : aNil ρ = some [] := rfl
theorem x_cons (h1 : f ρ = some d) (h2 : fa ρ = some ds) : aCons f fa ρ = some (d :: ds) := by unfold aCons; rw [h1, Option.bind_some, h2, Option.map_some]
theorem x_call {o : List D → Option D} (h1 : fa ρ = some ds) (h2 : o ds = some d) : eCall o fa ρ = some d := by unfold eCall; rw [h1, Option.bind_some, h2]
theorem x_cald {o : List D → Option D} {dds : List D} (h1 : fa ρ = some ds) (hl : (ds ++ dds).length = ar) (h2 : o (ds ++ dds) = some d) : eCall (callD ar dds o) fa ρ = some d := by unfold eCall callD; rw [h1, Option.bind_some, if_pos hl, h2]
theorem x_tup (h1 : fa ρ = some ds) (hl : ds.length ≤ lim) : eTup fa ρ = some (.tup ds) := by unfold eTup; rw [h1, Option.bind_some, if_pos hl]
theorem x_l (h1 : fa ρ = some ds) : eL fa ρ = some (.lst ds) := by unfold eL; rw [h1, Option.map_some]
theorem x_cmp {o : D → D → Option D} (h1 : f ρ = some x) (h2 : g ρ = some y) (h3 : o x y = some (.bl c)) : bCmp o f g ρ = some c := by unfold bCmp; rw [x_op h1 h2 h3, Option.bind_some]; rfl
theorem x_seq (h1 : u ρ = some (.nx, ρ1)) (h2 : w ρ1 = r) : sSeq u w ρ = r := by unfold sSeq; rw [h1, Option.bind_some]; exact h2
theorem x_ret (h1 : f ρ = some d) : sRet f ρ = some (.rt d, ρ) := by unfold sRet; rw [h1, Option.map_some]
theorem x_set (h1 : f ρ = some d) : sSet i f ρ = some (.nx, ρ.set i (some (.fz d))) := by unfold sSet; rw [h1, Option.map_some]
theorem x_own (h1 : fa ρ = some ds) : sOwn i fa ρ = some (.nx, ρ.set i (some (.ow ds))) := by unfold sOwn; rw [h1, Option.map_some]
theorem x_append (h0 : ρ[i]? = some (some (.ow ds))) (h1 : f ρ = some d) (hl : ds.length < lim) : sApp i f ρ = some (.nx, ρ.set i (some (.ow (ds ++ [d])))) := by unfold sApp owAt; rw [h0]; simp only [Option.bind_some, h1, if_pos hl]
theorem x_for {it : FA} {b : FB} {body : FS} (h1 : it ρ = some ds) (h2 : runFor b body ds ρ = r) : sFor it b body ρ = r := by unfold sFor; rw [h1, Option.bind_some]; exact h2
theorem x_frz (h1 : frz i ρ = ρ1) (h2 : u ρ1 = r) : sFrz i u ρ = r := by unfold sFrz; rw [h1]; exact h2
theorem run_rt (h : u (ds.map (fun d => some (.fz d)) ++ List.replicate (n - ds.length) none) = some (.rt d, ρ')) : runFn n u ds = some d := by unfold runFn; rw [h]
end
end DL
set_option maxRecDepth 100000
set_option maxHeartbeats 1000000
namespace DL
open PySem L2
theorem eV0 (d : D) (r : Rho) : eV 0 (some (.fz d) :: r) = some d := rfl
theorem eVs (i : Nat) (x : Option B) (r : Rho) : eV (i + 1) (x :: r) = eV i r := rfl
theorem oLenT (ds : List D) : oLen [.tup ds] = some (.int ds.length) := rfl
theorem oLenL (ds : List D) : oLen [.lst ds] = some (.int ds.length) := rfl
theorem frz0 (ds : List D) (r : Rho) : frz 0 (some (.ow ds) :: r) = some (.fz (.lst ds)) :: r := rfl
theorem frzs (i : Nat) (x : Option B) (r : Rho) : frz (i + 1) (x :: r) = x :: frz i r := by
  unfold frz
  rw [List.getElem?_cons_succ]
  cases h : r[i]? with
  | none => rfl
  | some y =>
    cases y with
    | none => rfl
    | some z => cases z <;> rfl
theorem oTimes_int (a b : Int) (h : -(2 ^ 64) < b ∧ b < 2 ^ 64) : oTimes (.int a) (.int b) = some (.int (a * b)) := by
  have h2 : (decide (-(2 ^ 64) < b) && decide (b < 2 ^ 64)) = true := by rw [decide_eq_true h.1, decide_eq_true h.2]; rfl
  show (if ((decide (-(2 ^ 64) < a) && decide (a < 2 ^ 64)) || (decide (-(2 ^ 64) < b) && decide (b < 2 ^ 64))) = true then some (D.int (a * b)) else none).or _ = _
  rw [h2, Bool.or_true, if_pos rfl, Option.some_or]
theorem oTimes_intL (a b : Int) (h : -(2 ^ 64) < a ∧ a < 2 ^ 64) : oTimes (.int a) (.int b) = some (.int (a * b)) := by
  have h2 : (decide (-(2 ^ 64) < a) && decide (a < 2 ^ 64)) = true := by rw [decide_eq_true h.1, decide_eq_true h.2]; rfl
  show (if ((decide (-(2 ^ 64) < a) && decide (a < 2 ^ 64)) || (decide (-(2 ^ 64) < b) && decide (b < 2 ^ 64))) = true then some (D.int (a * b)) else none).or _ = _
  rw [h2, Bool.true_or, if_pos rfl, Option.some_or]
theorem oIxL (ds : List D) (i : Int) : oIx (.lst ds) (.int i) = atI ds i := rfl
theorem oIxT (ds : List D) (i : Int) : oIx (.tup ds) (.int i) = atI ds i := rfl
theorem atI_lit {α : Type} (xs : List α) (n : Nat) : atI xs (no_index (OfNat.ofNat n : Int)) = xs[n]? := by
  show atI xs (n : Int) = xs[n]?
  rw [atI_pos (show (0 : Int) ≤ (n : Int) by lia)]
  rfl
theorem atI_nat' {α : Type} (xs : List α) (n : Nat) : atI xs (n : Int) = xs[n]? := by
  rw [atI_pos (show (0 : Int) ≤ (n : Int) by lia)]
  rfl
theorem oTuple_l (ds : List D) : oTuple [.lst ds] = some (.tup ds) := rfl
theorem owAt0 (ds : List D) (r : Rho) : owAt 0 (some (.ow ds) :: r) = some ds := rfl
theorem owAts (i : Nat) (x : Option B) (r : Rho) : owAt (i + 1) (x :: r) = owAt i r := rfl
theorem run_ok {n : Nat} {u : FS} {ds : List D} {d : D} (h : (u (ds.map (fun d => some (.fz d)) ++ List.replicate (n - ds.length) none)).map Prod.fst = some (.rt d)) : runFn n u ds = some d := by
  cases e : u (ds.map (fun d => some (.fz d)) ++ List.replicate (n - ds.length) none) with
  | none => rw [e] at h; cases h
  | some p =>
    obtain ⟨fl, ρ'⟩ := p
    rw [e] at h
    have h' : fl = .rt d := by simpa using h
    subst h'
    exact run_rt e
theorem isi_all : isiD .int .non = false ∧ (∀ b : Bool, isiD .int (.bl b) = true) ∧ (∀ i : Int, isiD .int (.int i) = true) ∧ (∀ x : Str, isiD .int (.str x) = false) ∧ (∀ ds : List D, isiD .int (.tup ds) = false) ∧ (∀ ds : List D, isiD .int (.lst ds) = false) ∧ (∀ (ks : List Key) (vs : List D), isiD .int (.dct ks vs) = false) ∧ (∀ (ks : List (List Int)) (vs : List D), isiD .int (.dtt ks vs) = false) ∧ isiD .bool .non = false ∧ (∀ b : Bool, isiD .bool (.bl b) = true) ∧ (∀ i : Int, isiD .bool (.int i) = false) ∧ (∀ x : Str, isiD .bool (.str x) = false) ∧ (∀ ds : List D, isiD .bool (.tup ds) = false) ∧ (∀ ds : List D, isiD .bool (.lst ds) = false) ∧ (∀ (ks : List Key) (vs : List D), isiD .bool (.dct ks vs) = false) ∧ (∀ (ks : List (List Int)) (vs : List D), isiD .bool (.dtt ks vs) = false) ∧ isiD .tuple .non = false ∧ (∀ b : Bool, isiD .tuple (.bl b) = false) ∧ (∀ i : Int, isiD .tuple (.int i) = false) ∧ (∀ x : Str, isiD .tuple (.str x) = false) ∧ (∀ ds : List D, isiD .tuple (.tup ds) = true) ∧ (∀ ds : List D, isiD .tuple (.lst ds) = false) ∧ (∀ (ks : List Key) (vs : List D), isiD .tuple (.dct ks vs) = false) ∧ (∀ (ks : List (List Int)) (vs : List D), isiD .tuple (.dtt ks vs) = false) ∧ isiD .list .non = false ∧ (∀ b : Bool, isiD .list (.bl b) = false) ∧ (∀ i : Int, isiD .list (.int i) = false) ∧ (∀ x : Str, isiD .list (.str x) = false) ∧ (∀ ds : List D, isiD .list (.tup ds) = false) ∧ (∀ ds : List D, isiD .list (.lst ds) = true) ∧ (∀ (ks : List Key) (vs : List D), isiD .list (.dct ks vs) = false) ∧ (∀ (ks : List (List Int)) (vs : List D), isiD .list (.dtt ks vs) = false) ∧ isiD .str .non = false ∧ (∀ b : Bool, isiD .str (.bl b) = false) ∧ (∀ i : Int, isiD .str (.int i) = false) ∧ (∀ x : Str, isiD .str (.str x) = true) ∧ (∀ ds : List D, isiD .str (.tup ds) = false) ∧ (∀ ds : List D, isiD .str (.lst ds) = false) ∧ (∀ (ks : List Key) (vs : List D), isiD .str (.dct ks vs) = false) ∧ (∀ (ks : List (List Int)) (vs : List D), isiD .str (.dtt ks vs) = false) ∧ isiD .dict .non = false ∧ (∀ b : Bool, isiD .dict (.bl b) = false) ∧ (∀ i : Int, isiD .dict (.int i) = false) ∧ (∀ x : Str, isiD .dict (.str x) = false) ∧ (∀ ds : List D, isiD .dict (.tup ds) = false) ∧ (∀ ds : List D, isiD .dict (.lst ds) = false) ∧ (∀ (ks : List Key) (vs : List D), isiD .dict (.dct ks vs) = true) ∧ (∀ (ks : List (List Int)) (vs : List D), isiD .dict (.dtt ks vs) = true) := by
  refine ⟨?_, ?_, ?_, ?_, ?_, ?_, ?_, ?_, ?_, ?_, ?_, ?_, ?_, ?_, ?_, ?_, ?_, ?_, ?_, ?_, ?_, ?_, ?_, ?_, ?_, ?_, ?_, ?_, ?_, ?_, ?_, ?_, ?_, ?_, ?_, ?_, ?_, ?_, ?_, ?_, ?_, ?_, ?_, ?_, ?_, ?_, ?_, ?_⟩ <;> intros <;> rfl
theorem mod_nat {x : Int} {n : Nat} (hn : 0 < n) : ∃ k : Nat, k < n ∧ oMod (.int x) (.int (n : Int)) = some (.int (k : Int)) := by
  have h1 := Int.emod_nonneg x (show (n : Int) ≠ 0 by lia)
  have h2 := Int.emod_lt_of_pos x (show (0 : Int) < (n : Int) by lia)
  refine ⟨(x % n).toNat, by lia, ?_⟩
  rw [oMod_int _ _ (by lia), Int.toNat_of_nonneg h1]
end DL
namespace My
open PySem PySem.Spec PyProof.Rows L2 DL
def top (i : Nat) : Stmt := PySem.Challenge.pw_oftentogether_k13_by_columns.main.body.getD i (.Pass ⟨0, 0, 0, 0⟩)
def topM (i j : Nat) : Stmt := match top i with | .ClassDef _ _ _ body _ _ _ _ _ _ _ => body.getD j (.Pass ⟨0, 0, 0, 0⟩) | x => x
section
variable [Lam] {P : Program} {w : World} {K : Frag} {mg : Str → Option Value} {base : Heap}
abbrev s_law_mixed : Stmt := top 20
def N_law_mixed : List Str := ["_law_script", "_law_k", "_law_cell_here"]
theorem nd_law_mixed : (N_law_mixed).Nodup := by decide +kernel
theorem sc_law_mixed : FnScope N_law_mixed ["_law_script", "_law_k"] (defScope s_law_mixed) := ⟨rfl, rfl, rfl, nd_law_mixed, rfl, by decide +kernel, by decide +kernel⟩
def u_law_mixed : FS := (sSeq (sSet 2 (eOp oPlus (eOp oTimes (eC (.int 7)) (eV 1)) (eC (.int 5)))) (sSeq (sIf (bCmp oGt (eCall oLen (aCons (eV 0) aNil)) (eC (.int 0))) (sSet 2 (eOp oPlus (eOp oPlus (eOp oMod (eOp oIx (eV 0) (eOp oMod (eV 1) (eCall oLen (aCons (eV 0) aNil)))) (eC (.int 2147483587))) (eOp oTimes (eC (.int 11)) (eOp oDiv (eV 1) (eCall oLen (aCons (eV 0) aNil))))) (eC (.int 1)))) sNil) (sSeq (sSet 2 (eOp oMod (eOp oPlus (eOp oPlus (eOp oTimes (eV 2) (eOp oPlus (eC (.int 48271)) (eOp oTimes (eOp oTimes (eC (.int 2)) (eV 1)) (eV 1)))) (eOp oTimes (eV 1) (eC (.int 7919)))) (eC (.int 3))) (eC (.int 2147483629)))) (sSeq (sSet 2 (eOp oMod (eOp oTimes (eV 2) (eV 2)) (eC (.int 2147483647)))) (sRet (eOp oMod (eOp oTimes (eV 2) (eOp oPlus (eC (.int 69621)) (eV 1))) (eC (.int 2147483563))))))))
def f_law_mixed : List D → Option D := runFn 3 u_law_mixed
set_option maxHeartbeats 4000000 in
theorem bd_law_mixed {fa : Addr} {cdv : Value} {A : Around} {outer : List Env} {s : Shared} {H : Hp} {E : XK} (n_len : mg "len" = none) (hr : Room 0 (A.deeper (envOfC "_law_mixed" (defScope s_law_mixed) s.heap.objs.size fa cdv))) :
    PSs (cxOf CX0 P w K mg base N_law_mixed "_law_mixed" (defScope s_law_mixed) fa cdv A outer s H E).nox (defBody s_law_mixed) (tDS K u_law_mixed) := by
  unfold u_law_mixed
  refine (sd_cons ?_ ?_); (focus (refine (sd_set (i := 2) ?_ ?_ ?_ ?_ ?_ ?_); (focus (exact nd_law_mixed)); (focus (exact rfl)); (focus (exact (Or.inl rfl))); (focus (refine (pd_op od_plus ?_ pd_int); (focus (refine (pd_op od_times pd_int ?_); (focus (exact (pd_var (pv 1)))))))); (focus (exact rfl)); (focus (exact (by first | exact .inl rfl | exact .inr rfl | assumption))))); (focus (refine (sd_cons ?_ ?_); (focus (refine (sd_if ?_ (sd_one ?_) sd_nil); (focus (refine (td_cmp od_gt ?_ pd_int); (focus (refine (pd_callB (cd_len) rfl n_len DL.boot_len' ?_); (focus ((refine ad_cons (hs := ?hs) ?a ?_); (case hs => exact star_ns rfl); (case a => (exact (pd_var (pv 0)))); exact ad_nil)))))); (focus (refine (sd_set (i := 2) ?_ ?_ ?_ ?_ ?_ ?_); (focus (exact nd_law_mixed)); (focus (exact rfl)); (focus (exact (Or.inl rfl))); (focus (refine (pd_op od_plus ?_ pd_int); (focus (refine (pd_op od_plus ?_ ?_); (focus (refine (pd_op od_mod ?_ pd_int); (focus (refine (pd_ix ?_ ?_); (focus (exact (pd_var (pv 0)))); (focus (refine (pd_op od_mod ?_ ?_); (focus (exact (pd_var (pv 1)))); (focus (refine (pd_callB (cd_len) rfl n_len DL.boot_len' ?_); (focus ((refine ad_cons (hs := ?hs) ?a ?_); (case hs => exact star_ns rfl); (case a => (exact (pd_var (pv 0)))); exact ad_nil)))))))))); (focus (refine (pd_op od_times pd_int ?_); (focus (refine (pd_op od_div ?_ ?_); (focus (exact (pd_var (pv 1)))); (focus (refine (pd_callB (cd_len) rfl n_len DL.boot_len' ?_); (focus ((refine ad_cons (hs := ?hs) ?a ?_); (case hs => exact star_ns rfl); (case a => (exact (pd_var (pv 0)))); exact ad_nil)))))))))))); (focus (exact rfl)); (focus (exact (by first | exact .inl rfl | exact .inr rfl | assumption))))))); (focus (refine (sd_cons ?_ ?_); (focus (refine (sd_set (i := 2) ?_ ?_ ?_ ?_ ?_ ?_); (focus (exact nd_law_mixed)); (focus (exact rfl)); (focus (exact (Or.inl rfl))); (focus (refine (pd_op od_mod ?_ pd_int); (focus (refine (pd_op od_plus ?_ pd_int); (focus (refine (pd_op od_plus ?_ ?_); (focus (refine (pd_op od_times ?_ ?_); (focus (exact (pd_var (pv 2)))); (focus (refine (pd_op od_plus pd_int ?_); (focus (refine (pd_op od_times ?_ ?_); (focus (refine (pd_op od_times pd_int ?_); (focus (exact (pd_var (pv 1)))))); (focus (exact (pd_var (pv 1)))))))))); (focus (refine (pd_op od_times ?_ pd_int); (focus (exact (pd_var (pv 1)))))))))))); (focus (exact rfl)); (focus (exact (by first | exact .inl rfl | exact .inr rfl | assumption))))); (focus (refine (sd_cons ?_ ?_); (focus (refine (sd_set (i := 2) ?_ ?_ ?_ ?_ ?_ ?_); (focus (exact nd_law_mixed)); (focus (exact rfl)); (focus (exact (Or.inl rfl))); (focus (refine (pd_op od_mod ?_ pd_int); (focus (refine (pd_op od_times ?_ ?_); (focus (exact (pd_var (pv 2)))); (focus (exact (pd_var (pv 2)))))))); (focus (exact rfl)); (focus (exact (by first | exact .inl rfl | exact .inr rfl | assumption))))); (focus (refine (sd_one ?_); (focus (refine (sd_ret ?_); (focus (refine (pd_op od_mod ?_ pd_int); (focus (refine (pd_op od_times ?_ ?_); (focus (exact (pd_var (pv 2)))); (focus (refine (pd_op od_plus pd_int ?_); (focus (exact (pd_var (pv 1))))))))))))))))))))
theorem ok_law_mixed {fa : Addr} {dV : Value} {fd : FuncData} (F : Fun2 K "_law_mixed" "_law_mixed" s_law_mixed dV fa fd) (n_len : mg "len" = none) : FnOk P w K mg base CX0 1 fa fd ["_law_script", "_law_k"] (spD K 2 f_law_mixed) :=
  F.okn (k := 0) (n := 3) (ar := 2) (k1 := 1) (u := u_law_mixed) sc_law_mixed rfl rfl rfl fun cdv A outer s H E hr => (by first | (with_reducible exact bd_law_mixed n_len hr) | exact bd_law_mixed n_len hr)
abbrev s_law_cell : Stmt := top 21
def N_law_cell : List Str := ["_law_script", "_law_k"]
theorem nd_law_cell : (N_law_cell).Nodup := by decide +kernel
theorem sc_law_cell : FnScope N_law_cell ["_law_script", "_law_k"] (defScope s_law_cell) := ⟨rfl, rfl, rfl, nd_law_cell, rfl, by decide +kernel, by decide +kernel⟩
def u_law_cell : FS := (sSeq (sIf (bCmp oLt' (eV 1) (eCall oLen (aCons (eV 0) aNil))) (sRet (eOp oIx (eV 0) (eV 1))) sNil) (sRet (eC (.int 0))))
def f_law_cell : List D → Option D := runFn 2 u_law_cell
set_option maxHeartbeats 4000000 in
theorem bd_law_cell {fa : Addr} {cdv : Value} {A : Around} {outer : List Env} {s : Shared} {H : Hp} {E : XK} (n_len : mg "len" = none) (hr : Room 0 (A.deeper (envOfC "_law_cell" (defScope s_law_cell) s.heap.objs.size fa cdv))) :
    PSs (cxOf CX0 P w K mg base N_law_cell "_law_cell" (defScope s_law_cell) fa cdv A outer s H E).nox (defBody s_law_cell) (tDS K u_law_cell) := by
  unfold u_law_cell
  refine (sd_cons ?_ ?_); (focus (refine (sd_if ?_ (sd_one ?_) sd_nil); (focus (refine (td_cmp od_lt' ?_ ?_); (focus (exact (pd_var (pv 1)))); (focus (refine (pd_callB (cd_len) rfl n_len DL.boot_len' ?_); (focus ((refine ad_cons (hs := ?hs) ?a ?_); (case hs => exact star_ns rfl); (case a => (exact (pd_var (pv 0)))); exact ad_nil)))))); (focus (refine (sd_ret ?_); (focus (refine (pd_ix ?_ ?_); (focus (exact (pd_var (pv 0)))); (focus (exact (pd_var (pv 1)))))))))); (focus (refine (sd_one ?_); (focus (exact (sd_ret pd_int)))))
theorem ok_law_cell {fa : Addr} {dV : Value} {fd : FuncData} (F : Fun2 K "_law_cell" "_law_cell" s_law_cell dV fa fd) (n_len : mg "len" = none) : FnOk P w K mg base CX0 1 fa fd ["_law_script", "_law_k"] (spD K 2 f_law_cell) :=
  F.okn (k := 0) (n := 2) (ar := 2) (k1 := 1) (u := u_law_cell) sc_law_cell rfl rfl rfl fun cdv A outer s H E hr => (by first | (with_reducible exact bd_law_cell n_len hr) | exact bd_law_cell n_len hr)
abbrev s_law_of_mark : Stmt := top 22
def N_law_of_mark : List Str := ["_law_mark"]
theorem nd_law_of_mark : (N_law_of_mark).Nodup := by decide +kernel
theorem sc_law_of_mark : FnScope N_law_of_mark ["_law_mark"] (defScope s_law_of_mark) := ⟨rfl, rfl, rfl, nd_law_of_mark, rfl, by decide +kernel, by decide +kernel⟩
theorem nd_law_of_mark_1 : (["_law_ware", "_law_mark"] : List Str).Nodup := by decide +kernel
def u_law_of_mark : FS := (sRet (eCall oTuple (aCons (eL (lComp (iR1 (aCons (eC (.int 12)) aNil)) [none, some 0] (bN 0) (bCmp oEq (eOp oBand (eOp oShr (eV 1) (eV 0)) (eC (.int 1))) (eC (.int 1))) (eV 0))) aNil)))
def f_law_of_mark : List D → Option D := runFn 1 u_law_of_mark
set_option maxHeartbeats 4000000 in
theorem bd_law_of_mark {fa : Addr} {cdv : Value} {A : Around} {outer : List Env} {s : Shared} {H : Hp} {E : XK} (n_tuple : mg "tuple" = none) (n_range : mg "range" = none) (hr : Room 0 (A.deeper (envOfC "_law_of_mark" (defScope s_law_of_mark) s.heap.objs.size fa cdv))) :
    PSs (cxOf CX0 P w K mg base N_law_of_mark "_law_of_mark" (defScope s_law_of_mark) fa cdv A outer s H E).nox (defBody s_law_of_mark) (tDS K u_law_of_mark) := by
  unfold u_law_of_mark
  refine (sd_one ?_); (focus (refine (sd_ret ?_); (focus (refine (pd_callTy (cd_tuple) rfl n_tuple DL.boot_tuple ?_); (focus ((refine ad_cons (hs := ?hs) ?a ?_); (case hs => exact star_ns rfl); (case a => (refine (pd_l ?_); (focus (refine (ld_comp (N' := ["_law_ware", "_law_mark"]) (cap := [none, some 0]) rfl (capOk_of rfl rfl) (fresh_name rfl) ?_ (fun _ _ _ _ _ => (gd_name nd_law_of_mark_1 rfl (Or.inl rfl) (.inr rfl))) (fun _ _ _ _ _ => (cd_one ?_)) (fun _ _ _ _ _ => ?_)); (focus (refine (id_range1 rfl n_range ?_); (focus ((refine ad_cons (hs := ?hs) ?a ?_); (case hs => exact star_ns rfl); (case a => (exact pd_int)); exact ad_nil)))); (focus (refine (td_cmp (od_eq hr.units) ?_ pd_int); (focus (refine (pd_op od_band ?_ pd_int); (focus (refine (pd_op od_shr ?_ ?_); (focus (exact (pd_var (pv 1)))); (focus (exact (pd_var (pv 0)))))))))); (focus (exact (pd_var (pv 0)))))))); exact ad_nil))))))
theorem ok_law_of_mark {fa : Addr} {dV : Value} {fd : FuncData} (F : Fun2 K "_law_of_mark" "_law_of_mark" s_law_of_mark dV fa fd) (n_tuple : mg "tuple" = none) (n_range : mg "range" = none) : FnOk P w K mg base CX0 1 fa fd ["_law_mark"] (spD K 1 f_law_of_mark) :=
  F.okn (k := 0) (n := 1) (ar := 1) (k1 := 1) (u := u_law_of_mark) sc_law_of_mark rfl rfl rfl fun cdv A outer s H E hr => (by first | (with_reducible exact bd_law_of_mark n_tuple n_range hr) | exact bd_law_of_mark n_tuple n_range hr)
abbrev s_law_run : Stmt := top 23
def N_law_run : List Str := ["_law_number", "_law_wares", "_law_great"]
theorem nd_law_run : (N_law_run).Nodup := by decide +kernel
theorem sc_law_run : FnScope N_law_run ["_law_number", "_law_wares", "_law_great"] (defScope s_law_run) := ⟨rfl, rfl, rfl, nd_law_run, rfl, by decide +kernel, by decide +kernel⟩
def u_law_run : FS := (sRet (eTup (aCons (eOp oPlus (eC (.int 1)) (eOp oMod (eOp oDiv (eV 0) (eC (.int 4096))) (eV 2))) (aCons (eCall (callD 1 [] f_law_of_mark) (aCons (eOp oMod (eV 0) (eOp oShl (eC (.int 1)) (eV 1))) aNil)) aNil))))
def f_law_run : List D → Option D := runFn 3 u_law_run
set_option maxHeartbeats 4000000 in
theorem bd_law_run {fa : Addr} {cdv : Value} {A : Around} {outer : List Env} {s : Shared} {H : Hp} {E : XK} {a__law_of_mark : Addr} {fd__law_of_mark : FuncData} (c__law_of_mark : Cal P w K mg base "_law_of_mark" 1 ["_law_mark"] 1 f_law_of_mark a__law_of_mark fd__law_of_mark) (b__law_of_mark : Binds K fd__law_of_mark ["_law_mark"] []) (hr : Room 1 (A.deeper (envOfC "_law_run" (defScope s_law_run) s.heap.objs.size fa cdv))) :
    PSs (cxOf CX0 P w K mg base N_law_run "_law_run" (defScope s_law_run) fa cdv A outer s H E).nox (defBody s_law_run) (tDS K u_law_run) := by
  unfold u_law_run
  refine (sd_one ?_); (focus (refine (sd_ret ?_); (focus (refine (pd_tup ?_); (focus ((refine ad_cons (hs := ?hs) ?a ?_); (case hs => exact star_ns rfl); (case a => (refine (pd_op od_plus pd_int ?_); (focus (refine (pd_op od_mod ?_ ?_); (focus (refine (pd_op od_div ?_ pd_int); (focus (exact (pd_var (pv 0)))))); (focus (exact (pd_var (pv 2)))))))); (refine ad_cons (hs := ?hs) ?a ?_); (case hs => exact star_ns rfl); (case a => (refine (pd_cal c__law_of_mark b__law_of_mark hr (by decide) rfl ?_); (focus ((refine ad_cons (hs := ?hs) ?a ?_); (case hs => exact star_ns rfl); (case a => (refine (pd_op od_mod ?_ ?_); (focus (exact (pd_var (pv 0)))); (focus (refine (pd_op od_shl pd_int ?_); (focus (exact (pd_var (pv 1)))))))); exact ad_nil)))); exact ad_nil))))))
theorem ok_law_run {fa : Addr} {dV : Value} {fd : FuncData} (F : Fun2 K "_law_run" "_law_run" s_law_run dV fa fd) {a__law_of_mark : Addr} {fd__law_of_mark : FuncData} (c__law_of_mark : Cal P w K mg base "_law_of_mark" 1 ["_law_mark"] 1 f_law_of_mark a__law_of_mark fd__law_of_mark) (b__law_of_mark : Binds K fd__law_of_mark ["_law_mark"] []) : FnOk P w K mg base CX0 2 fa fd ["_law_number", "_law_wares", "_law_great"] (spD K 3 f_law_run) :=
  F.okn (k := 1) (n := 3) (ar := 3) (k1 := 2) (u := u_law_run) sc_law_run rfl rfl rfl fun cdv A outer s H E hr => (by first | (with_reducible exact bd_law_run c__law_of_mark b__law_of_mark hr) | exact bd_law_run c__law_of_mark b__law_of_mark hr)
abbrev s_law_pile : Stmt := top 24
def N_law_pile : List Str := ["_law_script", "_law_wares", "_law_most_runs", "_law_great", "_law_runs", "_law_cell_here", "_law_base", "_law_k", "_law_number"]
theorem nd_law_pile : (N_law_pile).Nodup := by decide +kernel
theorem sc_law_pile : FnScope N_law_pile ["_law_script", "_law_wares", "_law_most_runs"] (defScope s_law_pile) := ⟨rfl, rfl, rfl, nd_law_pile, rfl, by decide +kernel, by decide +kernel⟩
def lb_law_pile_1 : FS := (sApp 4 (eCall (callD 3 [] f_law_run) (aCons (eV 5) (aCons (eV 1) (aCons (eV 3) aNil)))))
def lb_law_pile_2 : FS := (sSeq (sSet 8 (eCall (callD 2 [] f_law_mixed) (aCons (eV 0) (aCons (eOp oPlus (eC (.int 10)) (eV 7)) aNil)))) (sSeq (sIf (bCmp oEq (eOp oMod (eV 8) (eC (.int 3))) (eC (.int 0))) (sSet 8 (eOp oPlus (eOp oTimes (eOp oDiv (eV 8) (eC (.int 4096))) (eC (.int 4096))) (eOp oMod (eOp oBor (eV 8) (eV 6)) (eC (.int 4096))))) sNil) (sApp 4 (eCall (callD 3 [] f_law_run) (aCons (eV 8) (aCons (eV 1) (aCons (eV 3) aNil)))))))
def u_law_pile : FS := (sSeq (sSet 3 (eOp oIx (eL (lLst (aCons (eC (.int 1)) (aCons (eC (.int 3)) (aCons (eC (.int 9)) (aCons (eOp oPow (eC (.int 10)) (eC (.int 12))) aNil)))))) (eOp oMod (eCall (callD 2 [] f_law_mixed) (aCons (eV 0) (aCons (eC (.int 0)) aNil))) (eC (.int 4))))) (sSeq (sOwn 4 (lLst aNil)) (sSeq (sIf (bCmp oEq (eOp oMod (eCall (callD 2 [] f_law_cell) (aCons (eV 0) (aCons (eC (.int 0)) aNil))) (eC (.int 2))) (eC (.int 0))) (sFor (iSeq (eSl (eV 0) (oAt (eC (.int 2))) (oAt (eOp oPlus (eC (.int 2)) (eV 2))))) (bN 5) lb_law_pile_1) (sSeq (sSet 6 (eOp oMod (eCall (callD 2 [] f_law_mixed) (aCons (eV 0) (aCons (eC (.int 1)) aNil))) (eOp oShl (eC (.int 1)) (eV 1)))) (sFor (iR1 (aCons (eOp oMod (eCall (callD 2 [] f_law_mixed) (aCons (eV 0) (aCons (eC (.int 2)) aNil))) (eOp oPlus (eV 2) (eC (.int 1)))) aNil)) (bN 7) lb_law_pile_2))) (sFrz 4 (sRet (eTup (aCons (eV 1) (aCons (eCall oTuple (aCons (eV 4) aNil)) aNil))))))))
def f_law_pile : List D → Option D := runFn 9 u_law_pile
set_option maxHeartbeats 4000000 in
theorem bd_law_pile {fa : Addr} {cdv : Value} {A : Around} {outer : List Env} {s : Shared} {H : Hp} {E : XK} {a__law_mixed : Addr} {fd__law_mixed : FuncData} (c__law_mixed : Cal P w K mg base "_law_mixed" 1 ["_law_script", "_law_k"] 2 f_law_mixed a__law_mixed fd__law_mixed) (b__law_mixed : Binds K fd__law_mixed ["_law_script", "_law_k"] []) {a__law_cell : Addr} {fd__law_cell : FuncData} (c__law_cell : Cal P w K mg base "_law_cell" 1 ["_law_script", "_law_k"] 2 f_law_cell a__law_cell fd__law_cell) (b__law_cell : Binds K fd__law_cell ["_law_script", "_law_k"] []) {a__law_run : Addr} {fd__law_run : FuncData} (c__law_run : Cal P w K mg base "_law_run" 2 ["_law_number", "_law_wares", "_law_great"] 3 f_law_run a__law_run fd__law_run) (b__law_run : Binds K fd__law_run ["_law_number", "_law_wares", "_law_great"] []) (n_range : mg "range" = none) (n_tuple : mg "tuple" = none) (hr : Room 2 (A.deeper (envOfC "_law_pile" (defScope s_law_pile) s.heap.objs.size fa cdv))) :
    PSs (cxOf CX0 P w K mg base N_law_pile "_law_pile" (defScope s_law_pile) fa cdv A outer s H E).nox (defBody s_law_pile) (tDS K u_law_pile) := by
  unfold u_law_pile lb_law_pile_2 lb_law_pile_1
  refine (sd_cons ?_ ?_); (focus (refine (sd_set (i := 3) ?_ ?_ ?_ ?_ ?_ ?_); (focus (exact nd_law_pile)); (focus (exact rfl)); (focus (exact (Or.inl rfl))); (focus (refine (pd_ix ?_ ?_); (focus (refine (pd_l ?_); (focus (refine (ld_lst ?_); (focus ((refine ad_cons (hs := ?hs) ?a ?_); (case hs => exact star_ns rfl); (case a => (exact pd_int)); (refine ad_cons (hs := ?hs) ?a ?_); (case hs => exact star_ns rfl); (case a => (exact pd_int)); (refine ad_cons (hs := ?hs) ?a ?_); (case hs => exact star_ns rfl); (case a => (exact pd_int)); (refine ad_cons (hs := ?hs) ?a ?_); (case hs => exact star_ns rfl); (case a => (exact (pd_op od_pow pd_int pd_int))); exact ad_nil)))))); (focus (refine (pd_op od_mod ?_ pd_int); (focus (refine (pd_cal c__law_mixed b__law_mixed hr (by decide) rfl ?_); (focus ((refine ad_cons (hs := ?hs) ?a ?_); (case hs => exact star_ns rfl); (case a => (exact (pd_var (pv 0)))); (refine ad_cons (hs := ?hs) ?a ?_); (case hs => exact star_ns rfl); (case a => (exact pd_int)); exact ad_nil)))))))); (focus (exact rfl)); (focus (exact (by first | exact .inl rfl | exact .inr rfl | assumption))))); (focus (refine (sd_cons ?_ ?_); (focus (exact (sd_own (i := 4) nd_law_pile rfl (Or.inl rfl) (ld_lst ad_nil)))); (focus (refine (sd_cons ?_ ?_); (focus (refine (sd_if ?_ (sd_one ?_) (sd_cons ?_ ?_)); (focus (refine (td_cmp (od_eq hr.units) ?_ pd_int); (focus (refine (pd_op od_mod ?_ pd_int); (focus (refine (pd_cal c__law_cell b__law_cell hr (by decide) rfl ?_); (focus ((refine ad_cons (hs := ?hs) ?a ?_); (case hs => exact star_ns rfl); (case a => (exact (pd_var (pv 0)))); (refine ad_cons (hs := ?hs) ?a ?_); (case hs => exact star_ns rfl); (case a => (exact pd_int)); exact ad_nil)))))))); (focus (refine (sd_for PassesOwn.never rfl ?_ (gd_name nd_law_pile rfl (Or.inl rfl) (.inl rfl)) (sd_one ?_)); (focus (refine (id_seq ?_); (focus (refine (pd_slice ?_ (pod_some pd_int) (pod_some ?_)); (focus (exact (pd_var (pv 0)))); (focus (refine (pd_op od_plus pd_int ?_); (focus (exact (pd_var (pv 2)))))))))); (focus (refine (sd_app (pv 4) ?_); (focus (refine (pd_cal c__law_run b__law_run hr (by decide) rfl ?_); (focus ((refine ad_cons (hs := ?hs) ?a ?_); (case hs => exact star_ns rfl); (case a => (exact (pd_var (pv 5)))); (refine ad_cons (hs := ?hs) ?a ?_); (case hs => exact star_ns rfl); (case a => (exact (pd_var (pv 1)))); (refine ad_cons (hs := ?hs) ?a ?_); (case hs => exact star_ns rfl); (case a => (exact (pd_var (pv 3)))); exact ad_nil)))))))); (focus (refine (sd_set (i := 6) ?_ ?_ ?_ ?_ ?_ ?_); (focus (exact nd_law_pile)); (focus (exact rfl)); (focus (exact (Or.inl rfl))); (focus (refine (pd_op od_mod ?_ ?_); (focus (refine (pd_cal c__law_mixed b__law_mixed hr (by decide) rfl ?_); (focus ((refine ad_cons (hs := ?hs) ?a ?_); (case hs => exact star_ns rfl); (case a => (exact (pd_var (pv 0)))); (refine ad_cons (hs := ?hs) ?a ?_); (case hs => exact star_ns rfl); (case a => (exact pd_int)); exact ad_nil)))); (focus (refine (pd_op od_shl pd_int ?_); (focus (exact (pd_var (pv 1)))))))); (focus (exact rfl)); (focus (exact (by first | exact .inl rfl | exact .inr rfl | assumption))))); (focus (refine (sd_one ?_); (focus (refine (sd_for PassesOwn.never rfl ?_ (gd_name nd_law_pile rfl (Or.inl rfl) (.inl rfl)) (sd_cons ?_ ?_)); (focus (refine (id_range1 rfl n_range ?_); (focus ((refine ad_cons (hs := ?hs) ?a ?_); (case hs => exact star_ns rfl); (case a => (refine (pd_op od_mod ?_ ?_); (focus (refine (pd_cal c__law_mixed b__law_mixed hr (by decide) rfl ?_); (focus ((refine ad_cons (hs := ?hs) ?a ?_); (case hs => exact star_ns rfl); (case a => (exact (pd_var (pv 0)))); (refine ad_cons (hs := ?hs) ?a ?_); (case hs => exact star_ns rfl); (case a => (exact pd_int)); exact ad_nil)))); (focus (refine (pd_op od_plus ?_ pd_int); (focus (exact (pd_var (pv 2)))))))); exact ad_nil)))); (focus (refine (sd_set (i := 8) ?_ ?_ ?_ ?_ ?_ ?_); (focus (exact nd_law_pile)); (focus (exact rfl)); (focus (exact (Or.inl rfl))); (focus (refine (pd_cal c__law_mixed b__law_mixed hr (by decide) rfl ?_); (focus ((refine ad_cons (hs := ?hs) ?a ?_); (case hs => exact star_ns rfl); (case a => (exact (pd_var (pv 0)))); (refine ad_cons (hs := ?hs) ?a ?_); (case hs => exact star_ns rfl); (case a => (refine (pd_op od_plus pd_int ?_); (focus (exact (pd_var (pv 7)))))); exact ad_nil)))); (focus (exact rfl)); (focus (exact (by first | exact .inl rfl | exact .inr rfl | assumption))))); (focus (refine (sd_cons ?_ ?_); (focus (refine (sd_if ?_ (sd_one ?_) sd_nil); (focus (refine (td_cmp (od_eq hr.units) ?_ pd_int); (focus (refine (pd_op od_mod ?_ pd_int); (focus (exact (pd_var (pv 8)))))))); (focus (refine (sd_set (i := 8) ?_ ?_ ?_ ?_ ?_ ?_); (focus (exact nd_law_pile)); (focus (exact rfl)); (focus (exact (Or.inl rfl))); (focus (refine (pd_op od_plus ?_ ?_); (focus (refine (pd_op od_times ?_ pd_int); (focus (refine (pd_op od_div ?_ pd_int); (focus (exact (pd_var (pv 8)))))))); (focus (refine (pd_op od_mod ?_ pd_int); (focus (refine (pd_op od_bor ?_ ?_); (focus (exact (pd_var (pv 8)))); (focus (exact (pd_var (pv 6)))))))))); (focus (exact rfl)); (focus (exact (by first | exact .inl rfl | exact .inr rfl | assumption))))))); (focus (refine (sd_one ?_); (focus (refine (sd_app (pv 4) ?_); (focus (refine (pd_cal c__law_run b__law_run hr (by decide) rfl ?_); (focus ((refine ad_cons (hs := ?hs) ?a ?_); (case hs => exact star_ns rfl); (case a => (exact (pd_var (pv 8)))); (refine ad_cons (hs := ?hs) ?a ?_); (case hs => exact star_ns rfl); (case a => (exact (pd_var (pv 1)))); (refine ad_cons (hs := ?hs) ?a ?_); (case hs => exact star_ns rfl); (case a => (exact (pd_var (pv 3)))); exact ad_nil)))))))))))))))); (focus (refine (sd_frz 4 (sd_one ?_)); (focus (refine (sd_ret ?_); (focus (refine (pd_tup ?_); (focus ((refine ad_cons (hs := ?hs) ?a ?_); (case hs => exact star_ns rfl); (case a => (exact (pd_var (pv 1)))); (refine ad_cons (hs := ?hs) ?a ?_); (case hs => exact star_ns rfl); (case a => (refine (pd_callTy (cd_tuple) rfl n_tuple DL.boot_tuple ?_); (focus ((refine ad_cons (hs := ?hs) ?a ?_); (case hs => exact star_ns rfl); (case a => (exact (pd_var (pv 4)))); exact ad_nil)))); exact ad_nil))))))))))))
theorem ok_law_pile {fa : Addr} {dV : Value} {fd : FuncData} (F : Fun2 K "_law_pile" "_law_pile" s_law_pile dV fa fd) {a__law_mixed : Addr} {fd__law_mixed : FuncData} (c__law_mixed : Cal P w K mg base "_law_mixed" 1 ["_law_script", "_law_k"] 2 f_law_mixed a__law_mixed fd__law_mixed) (b__law_mixed : Binds K fd__law_mixed ["_law_script", "_law_k"] []) {a__law_cell : Addr} {fd__law_cell : FuncData} (c__law_cell : Cal P w K mg base "_law_cell" 1 ["_law_script", "_law_k"] 2 f_law_cell a__law_cell fd__law_cell) (b__law_cell : Binds K fd__law_cell ["_law_script", "_law_k"] []) {a__law_run : Addr} {fd__law_run : FuncData} (c__law_run : Cal P w K mg base "_law_run" 2 ["_law_number", "_law_wares", "_law_great"] 3 f_law_run a__law_run fd__law_run) (b__law_run : Binds K fd__law_run ["_law_number", "_law_wares", "_law_great"] []) (n_range : mg "range" = none) (n_tuple : mg "tuple" = none) : FnOk P w K mg base CX0 3 fa fd ["_law_script", "_law_wares", "_law_most_runs"] (spD K 3 f_law_pile) :=
  F.okn (k := 2) (n := 9) (ar := 3) (k1 := 3) (u := u_law_pile) sc_law_pile rfl rfl rfl fun cdv A outer s H E hr => (by first | (with_reducible exact bd_law_pile c__law_mixed b__law_mixed c__law_cell b__law_cell c__law_run b__law_run n_range n_tuple hr) | exact bd_law_pile c__law_mixed b__law_mixed c__law_cell b__law_cell c__law_run b__law_run n_range n_tuple hr)
abbrev s_law_marks : Stmt := top 25
def N_law_marks : List Str := ["_law_pile_here"]
theorem nd_law_marks : (N_law_marks).Nodup := by decide +kernel
theorem sc_law_marks : FnScope N_law_marks ["_law_pile_here"] (defScope s_law_marks) := ⟨rfl, rfl, rfl, nd_law_marks, rfl, by decide +kernel, by decide +kernel⟩
theorem nd_law_marks_1 : (["_law_many", "_law_basket"] : List Str).Nodup := by decide +kernel
theorem nd_law_marks_2 : (["_law_ware"] : List Str).Nodup := by decide +kernel
def u_law_marks : FS := (sRet (eL (lComp (iSeq (eOp oIx (eV 0) (eC (.int 1)))) [none, none] (bTup 2 (bCons (bN 0) (bCons (bN 1) bNil))) cTrue (eTup (aCons (eV 0) (aCons (eCall oSum (aCons (eL (lComp (iSeq (eV 1)) [none] (bN 0) cTrue (eOp oShl (eC (.int 1)) (eV 0)))) aNil)) aNil))))))
def f_law_marks : List D → Option D := runFn 1 u_law_marks
set_option maxHeartbeats 4000000 in
theorem bd_law_marks {fa : Addr} {cdv : Value} {A : Around} {outer : List Env} {s : Shared} {H : Hp} {E : XK} (n_sum : mg "sum" = none) (hr : Room 0 (A.deeper (envOfC "_law_marks" (defScope s_law_marks) s.heap.objs.size fa cdv))) :
    PSs (cxOf CX0 P w K mg base N_law_marks "_law_marks" (defScope s_law_marks) fa cdv A outer s H E).nox (defBody s_law_marks) (tDS K u_law_marks) := by
  unfold u_law_marks
  refine (sd_one ?_); (focus (refine (sd_ret ?_); (focus (refine (pd_l ?_); (focus (refine (ld_comp (N' := ["_law_many", "_law_basket"]) (cap := [none, none]) rfl (capOk_of rfl rfl) (fresh_tup (freshS_cons rfl (freshS_cons rfl freshS_nil))) ?_ (fun _ _ _ _ _ => (gd_tup rfl (gd_cons (gd_name nd_law_marks_1 rfl (Or.inl rfl) (.inr rfl)) (gd_cons (gd_name nd_law_marks_1 rfl (Or.inl rfl) (.inr rfl)) gd_nil)))) (fun _ _ _ _ _ => cd_nil) (fun _ _ _ _ _ => ?_)); (focus (refine (id_seq ?_); (focus (refine (pd_ix ?_ pd_int); (focus (exact (pd_var (pv 0)))))))); (focus (refine (pd_tup ?_); (focus ((refine ad_cons (hs := ?hs) ?a ?_); (case hs => exact star_ns rfl); (case a => (exact (pd_var (pv 0)))); (refine ad_cons (hs := ?hs) ?a ?_); (case hs => exact star_ns rfl); (case a => (refine (pd_callB (cd_sum rfl) rfl n_sum DL.boot_sum ?_); (focus ((refine ad_cons (hs := ?hs) ?a ?_); (case hs => exact star_ns rfl); (case a => (refine (pd_l ?_); (focus (refine (ld_comp (N' := ["_law_ware"]) (cap := [none]) rfl (capOk_of rfl rfl) (fresh_name rfl) ?_ (fun _ _ _ _ _ => (gd_name nd_law_marks_2 rfl (Or.inl rfl) (.inr rfl))) (fun _ _ _ _ _ => cd_nil) (fun _ _ _ _ _ => ?_)); (focus (refine (id_seq ?_); (focus (exact (pd_var (pv 1)))))); (focus (refine (pd_op od_shl pd_int ?_); (focus (exact (pd_var (pv 0)))))))))); exact ad_nil)))); exact ad_nil))))))))))
theorem ok_law_marks {fa : Addr} {dV : Value} {fd : FuncData} (F : Fun2 K "_law_marks" "_law_marks" s_law_marks dV fa fd) (n_sum : mg "sum" = none) : FnOk P w K mg base CX0 1 fa fd ["_law_pile_here"] (spD K 1 f_law_marks) :=
  F.okn (k := 0) (n := 1) (ar := 1) (k1 := 1) (u := u_law_marks) sc_law_marks rfl rfl rfl fun cdv A outer s H E hr => (by first | (with_reducible exact bd_law_marks n_sum hr) | exact bd_law_marks n_sum hr)
abbrev s_law_counts : Stmt := top 26
def N_law_counts : List Str := ["_law_pile_here", "_law_marks_here", "_law_found", "_law_mark"]
theorem nd_law_counts : (N_law_counts).Nodup := by decide +kernel
theorem sc_law_counts : FnScope N_law_counts ["_law_pile_here"] (defScope s_law_counts) := ⟨rfl, rfl, rfl, nd_law_counts, rfl, by decide +kernel, by decide +kernel⟩
theorem nd_law_counts_1 : (["_law_many", "_law_own", "_law_mark"] : List Str).Nodup := by decide +kernel
def lb_law_counts_1 : FS := (sApp 2 (eCall oSum (aCons (eL (lComp (iSeq (eV 1)) [none, none, some 3] (bTup 2 (bCons (bN 0) (bCons (bN 1) bNil))) (bCmp oEq (eOp oBand (eV 1) (eV 2)) (eV 2)) (eV 0))) aNil)))
def u_law_counts : FS := (sSeq (sSet 1 (eCall (callD 1 [] f_law_marks) (aCons (eV 0) aNil))) (sSeq (sOwn 2 (lLst aNil)) (sSeq (sFor (iR1 (aCons (eOp oShl (eC (.int 1)) (eOp oIx (eV 0) (eC (.int 0)))) aNil)) (bN 3) lb_law_counts_1) (sFrz 2 (sRet (eV 2))))))
def f_law_counts : List D → Option D := runFn 4 u_law_counts
set_option maxHeartbeats 4000000 in
theorem bd_law_counts {fa : Addr} {cdv : Value} {A : Around} {outer : List Env} {s : Shared} {H : Hp} {E : XK} {a__law_marks : Addr} {fd__law_marks : FuncData} (c__law_marks : Cal P w K mg base "_law_marks" 1 ["_law_pile_here"] 1 f_law_marks a__law_marks fd__law_marks) (b__law_marks : Binds K fd__law_marks ["_law_pile_here"] []) (n_range : mg "range" = none) (n_sum : mg "sum" = none) (hr : Room 1 (A.deeper (envOfC "_law_counts" (defScope s_law_counts) s.heap.objs.size fa cdv))) :
    PSs (cxOf CX0 P w K mg base N_law_counts "_law_counts" (defScope s_law_counts) fa cdv A outer s H E).nox (defBody s_law_counts) (tDS K u_law_counts) := by
  unfold u_law_counts lb_law_counts_1
  refine (sd_cons ?_ ?_); (focus (refine (sd_set (i := 1) ?_ ?_ ?_ ?_ ?_ ?_); (focus (exact nd_law_counts)); (focus (exact rfl)); (focus (exact (Or.inl rfl))); (focus (refine (pd_cal c__law_marks b__law_marks hr (by decide) rfl ?_); (focus ((refine ad_cons (hs := ?hs) ?a ?_); (case hs => exact star_ns rfl); (case a => (exact (pd_var (pv 0)))); exact ad_nil)))); (focus (exact rfl)); (focus (exact (by first | exact .inl rfl | exact .inr rfl | assumption))))); (focus (refine (sd_cons ?_ ?_); (focus (exact (sd_own (i := 2) nd_law_counts rfl (Or.inl rfl) (ld_lst ad_nil)))); (focus (refine (sd_cons ?_ ?_); (focus (refine (sd_for PassesOwn.never rfl ?_ (gd_name nd_law_counts rfl (Or.inr rfl) (.inl rfl)) (sd_one ?_)); (focus (refine (id_range1 rfl n_range ?_); (focus ((refine ad_cons (hs := ?hs) ?a ?_); (case hs => exact star_ns rfl); (case a => (refine (pd_op od_shl pd_int ?_); (focus (refine (pd_ix ?_ pd_int); (focus (exact (pd_var (pv 0)))))))); exact ad_nil)))); (focus (refine (sd_app (pv 2) ?_); (focus (refine (pd_callB (cd_sum rfl) rfl n_sum DL.boot_sum ?_); (focus ((refine ad_cons (hs := ?hs) ?a ?_); (case hs => exact star_ns rfl); (case a => (refine (pd_l ?_); (focus (refine (ld_comp (N' := ["_law_many", "_law_own", "_law_mark"]) (cap := [none, none, some 3]) rfl (capOk_of rfl rfl) (fresh_tup (freshS_cons rfl (freshS_cons rfl freshS_nil))) ?_ (fun _ _ _ _ _ => (gd_tup rfl (gd_cons (gd_name nd_law_counts_1 rfl (Or.inl rfl) (.inr rfl)) (gd_cons (gd_name nd_law_counts_1 rfl (Or.inl rfl) (.inr rfl)) gd_nil)))) (fun _ _ _ _ _ => (cd_one ?_)) (fun _ _ _ _ _ => ?_)); (focus (refine (id_seq ?_); (focus (exact (pd_var (pv 1)))))); (focus (refine (td_cmp (od_eq hr.units) ?_ ?_); (focus (refine (pd_op od_band ?_ ?_); (focus (exact (pd_var (pv 1)))); (focus (exact (pd_var (pv 2)))))); (focus (exact (pd_var (pv 2)))))); (focus (exact (pd_var (pv 0)))))))); exact ad_nil)))))))); (focus (refine (sd_frz 2 (sd_one ?_)); (focus (refine (sd_ret ?_); (focus (exact (pd_var (pv 2))))))))))))
theorem ok_law_counts {fa : Addr} {dV : Value} {fd : FuncData} (F : Fun2 K "_law_counts" "_law_counts" s_law_counts dV fa fd) {a__law_marks : Addr} {fd__law_marks : FuncData} (c__law_marks : Cal P w K mg base "_law_marks" 1 ["_law_pile_here"] 1 f_law_marks a__law_marks fd__law_marks) (b__law_marks : Binds K fd__law_marks ["_law_pile_here"] []) (n_range : mg "range" = none) (n_sum : mg "sum" = none) : FnOk P w K mg base CX0 2 fa fd ["_law_pile_here"] (spD K 1 f_law_counts) :=
  F.okn (k := 1) (n := 4) (ar := 1) (k1 := 2) (u := u_law_counts) sc_law_counts rfl rfl rfl fun cdv A outer s H E hr => (by first | (with_reducible exact bd_law_counts c__law_marks b__law_marks n_range n_sum hr) | exact bd_law_counts c__law_marks b__law_marks n_range n_sum hr)
abbrev s_law_least : Stmt := top 27
def N_law_least : List Str := ["_law_script", "_law_counts_here", "_law_number", "_law_least_here"]
theorem nd_law_least : (N_law_least).Nodup := by decide +kernel
theorem sc_law_least : FnScope N_law_least ["_law_script", "_law_counts_here"] (defScope s_law_least) := ⟨rfl, rfl, rfl, nd_law_least, rfl, by decide +kernel, by decide +kernel⟩
def u_law_least : FS := (sSeq (sSet 2 (eCall (callD 2 [] f_law_cell) (aCons (eV 0) (aCons (eC (.int 1)) aNil)))) (sSeq (sIf (bCmp oLt' (eOp oMod (eV 2) (eC (.int 5))) (eC (.int 2))) (sRet (eOp oPlus (eC (.int 1)) (eOp oMod (eOp oDiv (eV 2) (eC (.int 5))) (eOp oIx (eL (lLst (aCons (eC (.int 10)) (aCons (eOp oPow (eC (.int 10)) (eC (.int 15))) aNil)))) (eOp oMod (eV 2) (eC (.int 5))))))) sNil) (sSeq (sSet 3 (eOp oPlus (eOp oIx (eV 1) (eOp oMod (eOp oDiv (eV 2) (eC (.int 5))) (eCall oLen (aCons (eV 1) aNil)))) (eOp oIx (eL (lLst (aCons (eC (.int 0)) (aCons (eC (.int 1)) (aCons (eUn oNeg (eC (.int 1))) aNil))))) (eOp oSub (eOp oMod (eV 2) (eC (.int 5))) (eC (.int 2)))))) (sRet (eCall oMax (aCons (eC (.int 1)) (aCons (eV 3) aNil)))))))
def f_law_least : List D → Option D := runFn 4 u_law_least
set_option maxHeartbeats 4000000 in
theorem bd_law_least {fa : Addr} {cdv : Value} {A : Around} {outer : List Env} {s : Shared} {H : Hp} {E : XK} {a__law_cell : Addr} {fd__law_cell : FuncData} (c__law_cell : Cal P w K mg base "_law_cell" 1 ["_law_script", "_law_k"] 2 f_law_cell a__law_cell fd__law_cell) (b__law_cell : Binds K fd__law_cell ["_law_script", "_law_k"] []) (n_max : mg "max" = none) (n_len : mg "len" = none) (hr : Room 1 (A.deeper (envOfC "_law_least" (defScope s_law_least) s.heap.objs.size fa cdv))) :
    PSs (cxOf CX0 P w K mg base N_law_least "_law_least" (defScope s_law_least) fa cdv A outer s H E).nox (defBody s_law_least) (tDS K u_law_least) := by
  unfold u_law_least
  refine (sd_cons ?_ ?_); (focus (refine (sd_set (i := 2) ?_ ?_ ?_ ?_ ?_ ?_); (focus (exact nd_law_least)); (focus (exact rfl)); (focus (exact (Or.inl rfl))); (focus (refine (pd_cal c__law_cell b__law_cell hr (by decide) rfl ?_); (focus ((refine ad_cons (hs := ?hs) ?a ?_); (case hs => exact star_ns rfl); (case a => (exact (pd_var (pv 0)))); (refine ad_cons (hs := ?hs) ?a ?_); (case hs => exact star_ns rfl); (case a => (exact pd_int)); exact ad_nil)))); (focus (exact rfl)); (focus (exact (by first | exact .inl rfl | exact .inr rfl | assumption))))); (focus (refine (sd_cons ?_ ?_); (focus (refine (sd_if ?_ (sd_one ?_) sd_nil); (focus (refine (td_cmp od_lt' ?_ pd_int); (focus (refine (pd_op od_mod ?_ pd_int); (focus (exact (pd_var (pv 2)))))))); (focus (refine (sd_ret ?_); (focus (refine (pd_op od_plus pd_int ?_); (focus (refine (pd_op od_mod ?_ ?_); (focus (refine (pd_op od_div ?_ pd_int); (focus (exact (pd_var (pv 2)))))); (focus (refine (pd_ix ?_ ?_); (focus (refine (pd_l ?_); (focus (refine (ld_lst ?_); (focus ((refine ad_cons (hs := ?hs) ?a ?_); (case hs => exact star_ns rfl); (case a => (exact pd_int)); (refine ad_cons (hs := ?hs) ?a ?_); (case hs => exact star_ns rfl); (case a => (exact (pd_op od_pow pd_int pd_int))); exact ad_nil)))))); (focus (refine (pd_op od_mod ?_ pd_int); (focus (exact (pd_var (pv 2)))))))))))))))); (focus (refine (sd_cons ?_ ?_); (focus (refine (sd_set (i := 3) ?_ ?_ ?_ ?_ ?_ ?_); (focus (exact nd_law_least)); (focus (exact rfl)); (focus (exact (Or.inl rfl))); (focus (refine (pd_op od_plus ?_ ?_); (focus (refine (pd_ix ?_ ?_); (focus (exact (pd_var (pv 1)))); (focus (refine (pd_op od_mod ?_ ?_); (focus (refine (pd_op od_div ?_ pd_int); (focus (exact (pd_var (pv 2)))))); (focus (refine (pd_callB (cd_len) rfl n_len DL.boot_len' ?_); (focus ((refine ad_cons (hs := ?hs) ?a ?_); (case hs => exact star_ns rfl); (case a => (exact (pd_var (pv 1)))); exact ad_nil)))))))); (focus (refine (pd_ix ?_ ?_); (focus (refine (pd_l ?_); (focus (refine (ld_lst ?_); (focus ((refine ad_cons (hs := ?hs) ?a ?_); (case hs => exact star_ns rfl); (case a => (exact pd_int)); (refine ad_cons (hs := ?hs) ?a ?_); (case hs => exact star_ns rfl); (case a => (exact pd_int)); (refine ad_cons (hs := ?hs) ?a ?_); (case hs => exact star_ns rfl); (case a => (exact (pd_neg pd_int))); exact ad_nil)))))); (focus (refine (pd_op od_sub ?_ pd_int); (focus (refine (pd_op od_mod ?_ pd_int); (focus (exact (pd_var (pv 2)))))))))))); (focus (exact rfl)); (focus (exact (by first | exact .inl rfl | exact .inr rfl | assumption))))); (focus (refine (sd_one ?_); (focus (refine (sd_ret ?_); (focus (refine (pd_callB (cd_max rfl) rfl n_max DL.boot_max ?_); (focus ((refine ad_cons (hs := ?hs) ?a ?_); (case hs => exact star_ns rfl); (case a => (exact pd_int)); (refine ad_cons (hs := ?hs) ?a ?_); (case hs => exact star_ns rfl); (case a => (exact (pd_var (pv 3)))); exact ad_nil))))))))))))
theorem ok_law_least {fa : Addr} {dV : Value} {fd : FuncData} (F : Fun2 K "_law_least" "_law_least" s_law_least dV fa fd) {a__law_cell : Addr} {fd__law_cell : FuncData} (c__law_cell : Cal P w K mg base "_law_cell" 1 ["_law_script", "_law_k"] 2 f_law_cell a__law_cell fd__law_cell) (b__law_cell : Binds K fd__law_cell ["_law_script", "_law_k"] []) (n_max : mg "max" = none) (n_len : mg "len" = none) : FnOk P w K mg base CX0 2 fa fd ["_law_script", "_law_counts_here"] (spD K 2 f_law_least) :=
  F.okn (k := 1) (n := 4) (ar := 2) (k1 := 2) (u := u_law_least) sc_law_least rfl rfl rfl fun cdv A outer s H E hr => (by first | (with_reducible exact bd_law_least c__law_cell b__law_cell n_max n_len hr) | exact bd_law_least c__law_cell b__law_cell n_max n_len hr)
abbrev s_law_in_order : Stmt := top 28
def N_law_in_order : List Str := ["_law_marks_here", "_law_sets"]
theorem nd_law_in_order : (N_law_in_order).Nodup := by decide +kernel
theorem sc_law_in_order : FnScope N_law_in_order ["_law_marks_here"] (defScope s_law_in_order) := ⟨rfl, rfl, rfl, nd_law_in_order, rfl, by decide +kernel, by decide +kernel⟩
theorem nd_law_in_order_1 : (["_law_mark"] : List Str).Nodup := by decide +kernel
theorem nd_law_in_order_2 : (["_law_size", "_law_some", "_law_mark"] : List Str).Nodup := by decide +kernel
def u_law_in_order : FS := (sSeq (sOwn 1 (lComp (iSeq (eV 0)) [none] (bN 0) cTrue (eTup (aCons (eCall oLen (aCons (eCall (callD 1 [] f_law_of_mark) (aCons (eV 0) aNil)) aNil)) (aCons (eCall (callD 1 [] f_law_of_mark) (aCons (eV 0) aNil)) (aCons (eV 0) aNil)))))) (sFrz 1 (sRet (eL (lComp (iSeq (eL (lCall oSortT (aCons (eV 1) aNil)))) [none, none, none] (bTup 3 (bCons (bN 0) (bCons (bN 1) (bCons (bN 2) bNil)))) cTrue (eV 2))))))
def f_law_in_order : List D → Option D := runFn 2 u_law_in_order
set_option maxHeartbeats 4000000 in
theorem bd_law_in_order {fa : Addr} {cdv : Value} {A : Around} {outer : List Env} {s : Shared} {H : Hp} {E : XK} {a__law_of_mark : Addr} {fd__law_of_mark : FuncData} (c__law_of_mark : Cal P w K mg base "_law_of_mark" 1 ["_law_mark"] 1 f_law_of_mark a__law_of_mark fd__law_of_mark) (b__law_of_mark : Binds K fd__law_of_mark ["_law_mark"] []) (n_len : mg "len" = none) (n_sorted : mg "sorted" = none) (hr : Room 1 (A.deeper (envOfC "_law_in_order" (defScope s_law_in_order) s.heap.objs.size fa cdv))) :
    PSs (cxOf CX0 P w K mg base N_law_in_order "_law_in_order" (defScope s_law_in_order) fa cdv A outer s H E).nox (defBody s_law_in_order) (tDS K u_law_in_order) := by
  unfold u_law_in_order
  refine (sd_cons ?_ ?_); (focus (refine (sd_comp (i := 1) rfl nd_law_in_order rfl rfl (N' := ["_law_mark"]) (cap := [none]) (capOk_of rfl rfl) (fresh_name rfl) ?_ (fun _ _ _ _ _ => (gd_name nd_law_in_order_1 rfl (Or.inl rfl) (.inr rfl))) (fun _ _ _ _ _ => cd_nil) (fun _ _ _ _ _ => ?_)); (focus (refine (id_seq ?_); (focus (exact (pd_var (pv 0)))))); (focus (refine (pd_tup ?_); (focus ((refine ad_cons (hs := ?hs) ?a ?_); (case hs => exact star_ns rfl); (case a => (refine (pd_callB (cd_len) rfl n_len DL.boot_len' ?_); (focus ((refine ad_cons (hs := ?hs) ?a ?_); (case hs => exact star_ns rfl); (case a => (refine (pd_cal c__law_of_mark b__law_of_mark hr (by decide) rfl ?_); (focus ((refine ad_cons (hs := ?hs) ?a ?_); (case hs => exact star_ns rfl); (case a => (exact (pd_var (pv 0)))); exact ad_nil)))); exact ad_nil)))); (refine ad_cons (hs := ?hs) ?a ?_); (case hs => exact star_ns rfl); (case a => (refine (pd_cal c__law_of_mark b__law_of_mark hr (by decide) rfl ?_); (focus ((refine ad_cons (hs := ?hs) ?a ?_); (case hs => exact star_ns rfl); (case a => (exact (pd_var (pv 0)))); exact ad_nil)))); (refine ad_cons (hs := ?hs) ?a ?_); (case hs => exact star_ns rfl); (case a => (exact (pd_var (pv 0)))); exact ad_nil)))))); (focus (refine (sd_frz 1 (sd_one ?_)); (focus (refine (sd_ret ?_); (focus (refine (pd_l ?_); (focus (refine (ld_comp (N' := ["_law_size", "_law_some", "_law_mark"]) (cap := [none, none, none]) rfl (capOk_of rfl rfl) (fresh_tup (freshS_cons rfl (freshS_cons rfl (freshS_cons rfl freshS_nil)))) ?_ (fun _ _ _ _ _ => (gd_tup rfl (gd_cons (gd_name nd_law_in_order_2 rfl (Or.inl rfl) (.inr rfl)) (gd_cons (gd_name nd_law_in_order_2 rfl (Or.inl rfl) (.inr rfl)) (gd_cons (gd_name nd_law_in_order_2 rfl (Or.inl rfl) (.inr rfl)) gd_nil))))) (fun _ _ _ _ _ => cd_nil) (fun _ _ _ _ _ => ?_)); (focus (refine (id_seq ?_); (focus (refine (pd_l ?_); (focus (refine (ld_callB (cd_sortT hr.units) rfl n_sorted DL.boot_sorted ?_); (focus ((refine ad_cons (hs := ?hs) ?a ?_); (case hs => exact star_ns rfl); (case a => (exact (pd_var (pv 1)))); exact ad_nil)))))))); (focus (exact (pd_var (pv 2))))))))))))
theorem ok_law_in_order {fa : Addr} {dV : Value} {fd : FuncData} (F : Fun2 K "_law_in_order" "_law_in_order" s_law_in_order dV fa fd) {a__law_of_mark : Addr} {fd__law_of_mark : FuncData} (c__law_of_mark : Cal P w K mg base "_law_of_mark" 1 ["_law_mark"] 1 f_law_of_mark a__law_of_mark fd__law_of_mark) (b__law_of_mark : Binds K fd__law_of_mark ["_law_mark"] []) (n_len : mg "len" = none) (n_sorted : mg "sorted" = none) : FnOk P w K mg base CX0 2 fa fd ["_law_marks_here"] (spD K 1 f_law_in_order) :=
  F.okn (k := 1) (n := 2) (ar := 1) (k1 := 2) (u := u_law_in_order) sc_law_in_order rfl rfl rfl fun cdv A outer s H E hr => (by first | (with_reducible exact bd_law_in_order c__law_of_mark b__law_of_mark n_len n_sorted hr) | exact bd_law_in_order c__law_of_mark b__law_of_mark n_len n_sorted hr)
abbrev s_law_pairs : Stmt := top 29
def N_law_pairs : List Str := ["_law_marks_here", "_law_counts_here"]
theorem nd_law_pairs : (N_law_pairs).Nodup := by decide +kernel
theorem sc_law_pairs : FnScope N_law_pairs ["_law_marks_here", "_law_counts_here"] (defScope s_law_pairs) := ⟨rfl, rfl, rfl, nd_law_pairs, rfl, by decide +kernel, by decide +kernel⟩
theorem nd_law_pairs_1 : (["_law_mark", "_law_counts_here"] : List Str).Nodup := by decide +kernel
def u_law_pairs : FS := (sRet (eL (lComp (iSeq (eCall (callD 1 [] f_law_in_order) (aCons (eV 0) aNil))) [none, some 1] (bN 0) cTrue (eTup (aCons (eCall (callD 1 [] f_law_of_mark) (aCons (eV 0) aNil)) (aCons (eOp oIx (eV 1) (eV 0)) aNil))))))
def f_law_pairs : List D → Option D := runFn 2 u_law_pairs
set_option maxHeartbeats 4000000 in
theorem bd_law_pairs {fa : Addr} {cdv : Value} {A : Around} {outer : List Env} {s : Shared} {H : Hp} {E : XK} {a__law_of_mark : Addr} {fd__law_of_mark : FuncData} (c__law_of_mark : Cal P w K mg base "_law_of_mark" 1 ["_law_mark"] 1 f_law_of_mark a__law_of_mark fd__law_of_mark) (b__law_of_mark : Binds K fd__law_of_mark ["_law_mark"] []) {a__law_in_order : Addr} {fd__law_in_order : FuncData} (c__law_in_order : Cal P w K mg base "_law_in_order" 2 ["_law_marks_here"] 1 f_law_in_order a__law_in_order fd__law_in_order) (b__law_in_order : Binds K fd__law_in_order ["_law_marks_here"] []) (hr : Room 2 (A.deeper (envOfC "_law_pairs" (defScope s_law_pairs) s.heap.objs.size fa cdv))) :
    PSs (cxOf CX0 P w K mg base N_law_pairs "_law_pairs" (defScope s_law_pairs) fa cdv A outer s H E).nox (defBody s_law_pairs) (tDS K u_law_pairs) := by
  unfold u_law_pairs
  refine (sd_one ?_); (focus (refine (sd_ret ?_); (focus (refine (pd_l ?_); (focus (refine (ld_comp (N' := ["_law_mark", "_law_counts_here"]) (cap := [none, some 1]) rfl (capOk_of rfl rfl) (fresh_name rfl) ?_ (fun _ _ _ _ _ => (gd_name nd_law_pairs_1 rfl (Or.inl rfl) (.inr rfl))) (fun _ _ _ _ _ => cd_nil) (fun _ _ _ _ _ => ?_)); (focus (refine (id_seq ?_); (focus (refine (pd_cal c__law_in_order b__law_in_order hr (by decide) rfl ?_); (focus ((refine ad_cons (hs := ?hs) ?a ?_); (case hs => exact star_ns rfl); (case a => (exact (pd_var (pv 0)))); exact ad_nil)))))); (focus (refine (pd_tup ?_); (focus ((refine ad_cons (hs := ?hs) ?a ?_); (case hs => exact star_ns rfl); (case a => (refine (pd_cal c__law_of_mark b__law_of_mark hr (by decide) rfl ?_); (focus ((refine ad_cons (hs := ?hs) ?a ?_); (case hs => exact star_ns rfl); (case a => (exact (pd_var (pv 0)))); exact ad_nil)))); (refine ad_cons (hs := ?hs) ?a ?_); (case hs => exact star_ns rfl); (case a => (refine (pd_ix ?_ ?_); (focus (exact (pd_var (pv 1)))); (focus (exact (pd_var (pv 0)))))); exact ad_nil))))))))))
theorem ok_law_pairs {fa : Addr} {dV : Value} {fd : FuncData} (F : Fun2 K "_law_pairs" "_law_pairs" s_law_pairs dV fa fd) {a__law_of_mark : Addr} {fd__law_of_mark : FuncData} (c__law_of_mark : Cal P w K mg base "_law_of_mark" 1 ["_law_mark"] 1 f_law_of_mark a__law_of_mark fd__law_of_mark) (b__law_of_mark : Binds K fd__law_of_mark ["_law_mark"] []) {a__law_in_order : Addr} {fd__law_in_order : FuncData} (c__law_in_order : Cal P w K mg base "_law_in_order" 2 ["_law_marks_here"] 1 f_law_in_order a__law_in_order fd__law_in_order) (b__law_in_order : Binds K fd__law_in_order ["_law_marks_here"] []) : FnOk P w K mg base CX0 3 fa fd ["_law_marks_here", "_law_counts_here"] (spD K 2 f_law_pairs) :=
  F.okn (k := 2) (n := 2) (ar := 2) (k1 := 3) (u := u_law_pairs) sc_law_pairs rfl rfl rfl fun cdv A outer s H E hr => (by first | (with_reducible exact bd_law_pairs c__law_of_mark b__law_of_mark c__law_in_order b__law_in_order hr) | exact bd_law_pairs c__law_of_mark b__law_of_mark c__law_in_order b__law_in_order hr)
abbrev s_law_whole : Stmt := top 30
def N_law_whole : List Str := ["_law_found", "_law_due"]
theorem nd_law_whole : (N_law_whole).Nodup := by decide +kernel
theorem sc_law_whole : FnScope N_law_whole ["_law_found", "_law_due"] (defScope s_law_whole) := ⟨rfl, rfl, rfl, nd_law_whole, rfl, by decide +kernel, by decide +kernel⟩
def u_law_whole : FS := (sRet (eAnd (eIsi .int (eV 0)) (eAnd (eNot (eIsi .bool (eV 0))) (eOp oEq (eV 0) (eV 1)))))
def f_law_whole : List D → Option D := runFn 2 u_law_whole
set_option maxHeartbeats 4000000 in
theorem bd_law_whole {fa : Addr} {cdv : Value} {A : Around} {outer : List Env} {s : Shared} {H : Hp} {E : XK} (n_isinstance : mg "isinstance" = none) (n_int : mg "int" = none) (n_bool : mg "bool" = none) (hr : Room 0 (A.deeper (envOfC "_law_whole" (defScope s_law_whole) s.heap.objs.size fa cdv))) :
    PSs (cxOf CX0 P w K mg base N_law_whole "_law_whole" (defScope s_law_whole) fa cdv A outer s H E).nox (defBody s_law_whole) (tDS K u_law_whole) := by
  unfold u_law_whole
  refine (sd_one ?_); (focus (refine (sd_ret ?_); (focus (refine (pd_and ?_ (pd_and ?_ (pd_one ?_))); (focus (refine (pd_isi .int rfl n_isinstance rfl n_int DL.boot_int ?_); (focus (exact (pd_var (pv 0)))))); (focus (refine (pd_not ?_); (focus (refine (pd_isi .bool rfl n_isinstance rfl n_bool DL.boot_bool ?_); (focus (exact (pd_var (pv 0)))))))); (focus (refine (pd_cmp (od_eq hr.units) ?_ ?_); (focus (exact (pd_var (pv 0)))); (focus (exact (pd_var (pv 1))))))))))
theorem ok_law_whole {fa : Addr} {dV : Value} {fd : FuncData} (F : Fun2 K "_law_whole" "_law_whole" s_law_whole dV fa fd) (n_isinstance : mg "isinstance" = none) (n_int : mg "int" = none) (n_bool : mg "bool" = none) : FnOk P w K mg base CX0 1 fa fd ["_law_found", "_law_due"] (spD K 2 f_law_whole) :=
  F.okn (k := 0) (n := 2) (ar := 2) (k1 := 1) (u := u_law_whole) sc_law_whole rfl rfl rfl fun cdv A outer s H E hr => (by first | (with_reducible exact bd_law_whole n_isinstance n_int n_bool hr) | exact bd_law_whole n_isinstance n_int n_bool hr)
abbrev s_law_same : Stmt := top 31
def N_law_same : List Str := ["_law_found", "_law_due", "_law_pair", "_law_other", "_law_ware", "_law_own"]
theorem nd_law_same : (N_law_same).Nodup := by decide +kernel
theorem sc_law_same : FnScope N_law_same ["_law_found", "_law_due"] (defScope s_law_same) := ⟨rfl, rfl, rfl, nd_law_same, rfl, by decide +kernel, by decide +kernel⟩
def lb_law_same_1 : FS := (sIf (bNot (bT (eCall (callD 2 [] f_law_whole) (aCons (eV 4) (aCons (eV 5) aNil))))) (sRet (eC (.bl false))) sNil)
def lb_law_same_2 : FS := (sSeq (sIf (bOr (bNot (bT (eIsi .tuple (eV 2)))) (bOr (bCmp oNeF (eCall oLen (aCons (eV 2) aNil)) (eC (.int 2))) (bNot (bT (eCall (callD 2 [] f_law_whole) (aCons (eOp oIx (eV 2) (eC (.int 1))) (aCons (eOp oIx (eV 3) (eC (.int 1))) aNil))))))) (sRet (eC (.bl false))) sNil) (sSeq (sIf (bOr (bNot (bT (eIsi .tuple (eOp oIx (eV 2) (eC (.int 0)))))) (bCmp oNeF (eCall oLen (aCons (eOp oIx (eV 2) (eC (.int 0))) aNil)) (eCall oLen (aCons (eOp oIx (eV 3) (eC (.int 0))) aNil)))) (sRet (eC (.bl false))) sNil) (sFor (iZip (aCons (eOp oIx (eV 2) (eC (.int 0))) (aCons (eOp oIx (eV 3) (eC (.int 0))) aNil))) (bTup 2 (bCons (bN 4) (bCons (bN 5) bNil))) lb_law_same_1)))
def u_law_same : FS := (sSeq (sIf (bOr (bNot (bT (eIsi .tuple (eV 0)))) (bCmp oNeF (eCall oLen (aCons (eV 0) aNil)) (eCall oLen (aCons (eV 1) aNil)))) (sRet (eC (.bl false))) sNil) (sSeq (sFor (iZip (aCons (eV 0) (aCons (eV 1) aNil))) (bTup 2 (bCons (bN 2) (bCons (bN 3) bNil))) lb_law_same_2) (sRet (eC (.bl true)))))
def f_law_same : List D → Option D := runFn 6 u_law_same
set_option maxHeartbeats 4000000 in
theorem bd_law_same {fa : Addr} {cdv : Value} {A : Around} {outer : List Env} {s : Shared} {H : Hp} {E : XK} {a__law_whole : Addr} {fd__law_whole : FuncData} (c__law_whole : Cal P w K mg base "_law_whole" 1 ["_law_found", "_law_due"] 2 f_law_whole a__law_whole fd__law_whole) (b__law_whole : Binds K fd__law_whole ["_law_found", "_law_due"] []) (n_zip : mg "zip" = none) (n_isinstance : mg "isinstance" = none) (n_tuple : mg "tuple" = none) (n_len : mg "len" = none) (hr : Room 1 (A.deeper (envOfC "_law_same" (defScope s_law_same) s.heap.objs.size fa cdv))) :
    PSs (cxOf CX0 P w K mg base N_law_same "_law_same" (defScope s_law_same) fa cdv A outer s H E).nox (defBody s_law_same) (tDS K u_law_same) := by
  unfold u_law_same lb_law_same_2 lb_law_same_1
  refine (sd_cons ?_ ?_); (focus (refine (sd_if ?_ (sd_one ?_) sd_nil); (focus (refine (PW.pt (tw_or ?_ (tw_or1 ?_))); (focus (refine (td_not ?_); (focus (refine (td_val ?_); (focus (refine (pd_isi .tuple rfl n_isinstance rfl n_tuple DL.boot_tuple ?_); (focus (exact (pd_var (pv 0)))))))))); (focus (refine (td_cmp od_neF ?_ ?_); (focus (refine (pd_callB (cd_len) rfl n_len DL.boot_len' ?_); (focus ((refine ad_cons (hs := ?hs) ?a ?_); (case hs => exact star_ns rfl); (case a => (exact (pd_var (pv 0)))); exact ad_nil)))); (focus (refine (pd_callB (cd_len) rfl n_len DL.boot_len' ?_); (focus ((refine ad_cons (hs := ?hs) ?a ?_); (case hs => exact star_ns rfl); (case a => (exact (pd_var (pv 1)))); exact ad_nil)))))))); (focus (exact (sd_ret pd_bl))))); (focus (refine (sd_cons ?_ ?_); (focus (refine (sd_for PassesOwn.never rfl ?_ (gd_tup rfl (gd_cons (gd_name nd_law_same rfl (Or.inl rfl) (.inl rfl)) (gd_cons (gd_name nd_law_same rfl (Or.inl rfl) (.inl rfl)) gd_nil))) (sd_cons ?_ ?_)); (focus (refine (id_zip rfl n_zip ?_); (focus ((refine ad_cons (hs := ?hs) ?a ?_); (case hs => exact star_ns rfl); (case a => (exact (pd_var (pv 0)))); (refine ad_cons (hs := ?hs) ?a ?_); (case hs => exact star_ns rfl); (case a => (exact (pd_var (pv 1)))); exact ad_nil)))); (focus (refine (sd_if ?_ (sd_one ?_) sd_nil); (focus (refine (PW.pt (tw_or ?_ (tw_or ?_ (tw_or1 ?_)))); (focus (refine (td_not ?_); (focus (refine (td_val ?_); (focus (refine (pd_isi .tuple rfl n_isinstance rfl n_tuple DL.boot_tuple ?_); (focus (exact (pd_var (pv 2)))))))))); (focus (refine (td_cmp od_neF ?_ pd_int); (focus (refine (pd_callB (cd_len) rfl n_len DL.boot_len' ?_); (focus ((refine ad_cons (hs := ?hs) ?a ?_); (case hs => exact star_ns rfl); (case a => (exact (pd_var (pv 2)))); exact ad_nil)))))); (focus (refine (td_not ?_); (focus (refine (td_val ?_); (focus (refine (pd_cal c__law_whole b__law_whole hr (by decide) rfl ?_); (focus ((refine ad_cons (hs := ?hs) ?a ?_); (case hs => exact star_ns rfl); (case a => (refine (pd_ix ?_ pd_int); (focus (exact (pd_var (pv 2)))))); (refine ad_cons (hs := ?hs) ?a ?_); (case hs => exact star_ns rfl); (case a => (refine (pd_ix ?_ pd_int); (focus (exact (pd_var (pv 3)))))); exact ad_nil)))))))))); (focus (exact (sd_ret pd_bl))))); (focus (refine (sd_cons ?_ ?_); (focus (refine (sd_if ?_ (sd_one ?_) sd_nil); (focus (refine (PW.pt (tw_or ?_ (tw_or1 ?_))); (focus (refine (td_not ?_); (focus (refine (td_val ?_); (focus (refine (pd_isi .tuple rfl n_isinstance rfl n_tuple DL.boot_tuple ?_); (focus (refine (pd_ix ?_ pd_int); (focus (exact (pd_var (pv 2)))))))))))); (focus (refine (td_cmp od_neF ?_ ?_); (focus (refine (pd_callB (cd_len) rfl n_len DL.boot_len' ?_); (focus ((refine ad_cons (hs := ?hs) ?a ?_); (case hs => exact star_ns rfl); (case a => (refine (pd_ix ?_ pd_int); (focus (exact (pd_var (pv 2)))))); exact ad_nil)))); (focus (refine (pd_callB (cd_len) rfl n_len DL.boot_len' ?_); (focus ((refine ad_cons (hs := ?hs) ?a ?_); (case hs => exact star_ns rfl); (case a => (refine (pd_ix ?_ pd_int); (focus (exact (pd_var (pv 3)))))); exact ad_nil)))))))); (focus (exact (sd_ret pd_bl))))); (focus (refine (sd_one ?_); (focus (refine (sd_for PassesOwn.never rfl ?_ (gd_tup rfl (gd_cons (gd_name nd_law_same rfl (Or.inl rfl) (.inl rfl)) (gd_cons (gd_name nd_law_same rfl (Or.inl rfl) (.inl rfl)) gd_nil))) (sd_one ?_)); (focus (refine (id_zip rfl n_zip ?_); (focus ((refine ad_cons (hs := ?hs) ?a ?_); (case hs => exact star_ns rfl); (case a => (refine (pd_ix ?_ pd_int); (focus (exact (pd_var (pv 2)))))); (refine ad_cons (hs := ?hs) ?a ?_); (case hs => exact star_ns rfl); (case a => (refine (pd_ix ?_ pd_int); (focus (exact (pd_var (pv 3)))))); exact ad_nil)))); (focus (refine (sd_if ?_ (sd_one ?_) sd_nil); (focus (refine (td_not ?_); (focus (refine (td_val ?_); (focus (refine (pd_cal c__law_whole b__law_whole hr (by decide) rfl ?_); (focus ((refine ad_cons (hs := ?hs) ?a ?_); (case hs => exact star_ns rfl); (case a => (exact (pd_var (pv 4)))); (refine ad_cons (hs := ?hs) ?a ?_); (case hs => exact star_ns rfl); (case a => (exact (pd_var (pv 5)))); exact ad_nil)))))))); (focus (exact (sd_ret pd_bl))))))))))))); (focus (refine (sd_one ?_); (focus (exact (sd_ret pd_bl)))))))
theorem ok_law_same {fa : Addr} {dV : Value} {fd : FuncData} (F : Fun2 K "_law_same" "_law_same" s_law_same dV fa fd) {a__law_whole : Addr} {fd__law_whole : FuncData} (c__law_whole : Cal P w K mg base "_law_whole" 1 ["_law_found", "_law_due"] 2 f_law_whole a__law_whole fd__law_whole) (b__law_whole : Binds K fd__law_whole ["_law_found", "_law_due"] []) (n_zip : mg "zip" = none) (n_isinstance : mg "isinstance" = none) (n_tuple : mg "tuple" = none) (n_len : mg "len" = none) : FnOk P w K mg base CX0 2 fa fd ["_law_found", "_law_due"] (spD K 2 f_law_same) :=
  F.okn (k := 1) (n := 6) (ar := 2) (k1 := 2) (u := u_law_same) sc_law_same rfl rfl rfl fun cdv A outer s H E hr => (by first | (with_reducible exact bd_law_same c__law_whole b__law_whole n_zip n_isinstance n_tuple n_len hr) | exact bd_law_same c__law_whole b__law_whole n_zip n_isinstance n_tuple n_len hr)
abbrev s_order_of : Stmt := top 3
def N_order_of : List Str := ["some"]
theorem nd_order_of : (N_order_of).Nodup := by decide +kernel
theorem sc_order_of : FnScope N_order_of ["some"] (defScope s_order_of) := ⟨rfl, rfl, rfl, nd_order_of, rfl, by decide +kernel, by decide +kernel⟩
def u_order_of : FS := (sRet (eTup (aCons (eCall oLen (aCons (eV 0) aNil)) (aCons (eV 0) aNil))))
def f_order_of : List D → Option D := runFn 1 u_order_of
set_option maxHeartbeats 4000000 in
theorem bd_order_of {fa : Addr} {cdv : Value} {A : Around} {outer : List Env} {s : Shared} {H : Hp} {E : XK} (n_len : mg "len" = none) (hr : Room 0 (A.deeper (envOfC "order_of" (defScope s_order_of) s.heap.objs.size fa cdv))) :
    PSs (cxOf CX0 P w K mg base N_order_of "order_of" (defScope s_order_of) fa cdv A outer s H E).nox (defBody s_order_of) (tDS K u_order_of) := by
  unfold u_order_of
  refine (sd_one ?_); (focus (refine (sd_ret ?_); (focus (refine (pd_tup ?_); (focus ((refine ad_cons (hs := ?hs) ?a ?_); (case hs => exact star_ns rfl); (case a => (refine (pd_callB (cd_len) rfl n_len DL.boot_len' ?_); (focus ((refine ad_cons (hs := ?hs) ?a ?_); (case hs => exact star_ns rfl); (case a => (exact (pd_var (pv 0)))); exact ad_nil)))); (refine ad_cons (hs := ?hs) ?a ?_); (case hs => exact star_ns rfl); (case a => (exact (pd_var (pv 0)))); exact ad_nil))))))
theorem ok_order_of {fa : Addr} {dV : Value} {fd : FuncData} (F : Fun2 K "order_of" "order_of" s_order_of dV fa fd) (n_len : mg "len" = none) : FnOk P w K mg base CX0 1 fa fd ["some"] (spD K 1 f_order_of) :=
  F.okn (k := 0) (n := 1) (ar := 1) (k1 := 1) (u := u_order_of) sc_order_of rfl rfl rfl fun cdv A outer s H E hr => (by first | (with_reducible exact bd_order_of n_len hr) | exact bd_order_of n_len hr)
abbrev s_in_order : Stmt := top 13
def N_in_order : List Str := ["pairs"]
theorem nd_in_order : (N_in_order).Nodup := by decide +kernel
theorem sc_in_order : FnScope N_in_order ["pairs"] (defScope s_in_order) := ⟨rfl, rfl, rfl, nd_in_order, rfl, by decide +kernel, by decide +kernel⟩
def key_in_order_1 : List D → Option D := runFn 1 (sRet (eCall (callD 1 [] f_order_of) (aCons (eOp oIx (eV 0) (eC (.int 0))) aNil)))
def u_in_order : FS := (sRet (eCall oTuple (aCons (eL (lCall (oSortK1 key_in_order_1) (aCons (eV 0) aNil))) aNil)))
def f_in_order : List D → Option D := runFn 1 u_in_order
set_option maxHeartbeats 4000000 in
theorem bd_in_order {fa : Addr} {A : Around} {outer : List Env} {s : Shared} {H : Hp} {E : XK} {a_order_of : Addr} {fd_order_of : FuncData} (c_order_of : Cal P w K mg base "order_of" 1 ["some"] 1 f_order_of a_order_of fd_order_of) (b_order_of : Binds K fd_order_of ["some"] []) (n_tuple : mg "tuple" = none) (n_sorted : mg "sorted" = none) {cL TL : Addr} {dV' : Value} {fd' : FuncData} (F_L : Fun3 K "in_order" "in_order" s_in_order dV' fa fd' cL TL) (hP_L : (TL, ("in_order.<locals>.<lambda>" : Str)) ∈ Lam.tab) (hU_L : ∀ p ∈ Lam.tab, p.1 = TL → p.2 = "in_order.<locals>.<lambda>") (B_L : BltAt mg base) (hr : Room 4 (A.deeper (envOfC "in_order" (defScope s_in_order) s.heap.objs.size fa (.ref cL)))) :
    PSs (cxOf CX0 P w K mg base N_in_order "in_order" (defScope s_in_order) fa (.ref cL) A outer s H E).nox (defBody s_in_order) (tDS K u_in_order) := by
  unfold u_in_order key_in_order_1
  refine (sd_one ?_); (focus (refine (sd_ret ?_); (focus (refine (pd_callTy (cd_tuple) rfl n_tuple DL.boot_tuple ?_); (focus ((refine ad_cons (hs := ?hs) ?a ?_); (case hs => exact star_ns rfl); (case a => (refine (pd_l ?_); (focus (refine (ld_sortL (N := ["pair"]) (ps := ["pair"]) (k := 1) (u := (eCall (callD 1 [] f_order_of) (aCons (eOp oIx (eV 0) (eC (.int 0))) aNil))) rfl F_L.hd hP_L hU_L B_L hr rfl n_sorted ?_ ⟨rfl, rfl, rfl, by decide, rfl, by decide +kernel, by decide +kernel⟩ (fun _ _ _ _ _ _ _ hr => ?_) (fun _ _ _ us hl => match us, hl with | [_], _ => rfl) (by decide) rfl); (focus ((refine ad_cons (hs := ?hs) ?a ?_); (case hs => exact star_ns rfl); (case a => (exact (pd_var (pv 0)))); exact ad_nil)); (focus (refine (pd_cal c_order_of b_order_of hr (by decide) rfl ?_); (focus ((refine ad_cons (hs := ?hs) ?a ?_); (case hs => exact star_ns rfl); (case a => (refine (pd_ix ?_ pd_int); (focus (exact (pd_var (pv 0)))))); exact ad_nil)))))))); exact ad_nil))))))
theorem ok_in_order {fa : Addr} {a_order_of : Addr} {fd_order_of : FuncData} (c_order_of : Cal P w K mg base "order_of" 1 ["some"] 1 f_order_of a_order_of fd_order_of) (b_order_of : Binds K fd_order_of ["some"] []) (n_tuple : mg "tuple" = none) (n_sorted : mg "sorted" = none) {cL TL : Addr} {dV' : Value} {fd' : FuncData} (F_L : Fun3 K "in_order" "in_order" s_in_order dV' fa fd' cL TL) (hP_L : (TL, ("in_order.<locals>.<lambda>" : Str)) ∈ Lam.tab) (hU_L : ∀ p ∈ Lam.tab, p.1 = TL → p.2 = "in_order.<locals>.<lambda>") (B_L : BltAt mg base) : FnOk P w K mg base CX0 5 fa fd' ["pairs"] (spD K 1 f_in_order) :=
  F_L.okn (k := 4) (n := 1) (ar := 1) (k1 := 5) (u := u_in_order) sc_in_order rfl rfl rfl fun A outer s H E hr => (by first | (with_reducible exact bd_in_order c_order_of b_order_of n_tuple n_sorted F_L hP_L hU_L B_L hr) | exact bd_in_order c_order_of b_order_of n_tuple n_sorted F_L hP_L hU_L B_L hr)
abbrev s_column : Stmt := top 10
def N_column : List Str := ["runs", "ware"]
theorem nd_column : (N_column).Nodup := by decide +kernel
theorem sc_column : FnScope N_column ["runs", "ware"] (defScope s_column) := ⟨rfl, rfl, rfl, nd_column, rfl, by decide +kernel, by decide +kernel⟩
theorem nd_column_1 : (["place", "run", "ware"] : List Str).Nodup := by decide +kernel
def u_column : FS := (sRet (eCall oSum (aCons (eL (lComp (iEnum (eV 0)) [none, none, some 1] (bTup 2 (bCons (bN 0) (bCons (bN 1) bNil))) (bCmp (oIn false) (eV 2) (eOp oIx (eV 1) (eC (.int 1)))) (eOp oShl (eC (.int 1)) (eV 0)))) aNil)))
def f_column : List D → Option D := runFn 2 u_column
set_option maxHeartbeats 4000000 in
theorem bd_column {fa : Addr} {cdv : Value} {A : Around} {outer : List Env} {s : Shared} {H : Hp} {E : XK} (n_sum : mg "sum" = none) (n_enumerate : mg "enumerate" = none) (hr : Room 0 (A.deeper (envOfC "column" (defScope s_column) s.heap.objs.size fa cdv))) :
    PSs (cxOf CX0 P w K mg base N_column "column" (defScope s_column) fa cdv A outer s H E).nox (defBody s_column) (tDS K u_column) := by
  unfold u_column
  refine (sd_one ?_); (focus (refine (sd_ret ?_); (focus (refine (pd_callB (cd_sum rfl) rfl n_sum DL.boot_sum ?_); (focus ((refine ad_cons (hs := ?hs) ?a ?_); (case hs => exact star_ns rfl); (case a => (refine (pd_l ?_); (focus (refine (ld_comp (N' := ["place", "run", "ware"]) (cap := [none, none, some 1]) rfl (capOk_of rfl rfl) (fresh_tup (freshS_cons rfl (freshS_cons rfl freshS_nil))) ?_ (fun _ _ _ _ _ => (gd_tup rfl (gd_cons (gd_name nd_column_1 rfl (Or.inl rfl) (.inr rfl)) (gd_cons (gd_name nd_column_1 rfl (Or.inl rfl) (.inr rfl)) gd_nil)))) (fun _ _ _ _ _ => (cd_one ?_)) (fun _ _ _ _ _ => ?_)); (focus (refine (id_enum rfl n_enumerate ?_); (focus (exact (pd_var (pv 0)))))); (focus (refine (td_cmp od_in ?_ ?_); (focus (exact (pd_var (pv 2)))); (focus (refine (pd_ix ?_ pd_int); (focus (exact (pd_var (pv 1)))))))); (focus (refine (pd_op od_shl pd_int ?_); (focus (exact (pd_var (pv 0)))))))))); exact ad_nil))))))
theorem ok_column {fa : Addr} {dV : Value} {fd : FuncData} (F : Fun2 K "column" "column" s_column dV fa fd) (n_sum : mg "sum" = none) (n_enumerate : mg "enumerate" = none) : FnOk P w K mg base CX0 1 fa fd ["runs", "ware"] (spD K 2 f_column) :=
  F.okn (k := 0) (n := 2) (ar := 2) (k1 := 1) (u := u_column) sc_column rfl rfl rfl fun cdv A outer s H E hr => (by first | (with_reducible exact bd_column n_sum n_enumerate hr) | exact bd_column n_sum n_enumerate hr)
abbrev s_baskets_in : Stmt := top 16
def N_baskets_in : List Str := ["column", "runs"]
theorem nd_baskets_in : (N_baskets_in).Nodup := by decide +kernel
theorem sc_baskets_in : FnScope N_baskets_in ["column", "runs"] (defScope s_baskets_in) := ⟨rfl, rfl, rfl, nd_baskets_in, rfl, by decide +kernel, by decide +kernel⟩
theorem nd_baskets_in_1 : (["place", "run", "column"] : List Str).Nodup := by decide +kernel
def u_baskets_in : FS := (sRet (eCall oSum (aCons (eL (lComp (iEnum (eV 1)) [none, none, some 0] (bTup 2 (bCons (bN 0) (bCons (bN 1) bNil))) (bCmp oEq (eOp oMod (eOp oShr (eV 2) (eV 0)) (eC (.int 2))) (eC (.int 1))) (eOp oIx (eV 1) (eC (.int 0))))) aNil)))
def f_baskets_in : List D → Option D := runFn 2 u_baskets_in
set_option maxHeartbeats 4000000 in
theorem bd_baskets_in {fa : Addr} {cdv : Value} {A : Around} {outer : List Env} {s : Shared} {H : Hp} {E : XK} {a_column : Addr} {fd_column : FuncData} (c_column : Cal P w K mg base "column" 1 ["runs", "ware"] 2 f_column a_column fd_column) (n_sum : mg "sum" = none) (n_enumerate : mg "enumerate" = none) (hr : Room 1 (A.deeper (envOfC "baskets_in" (defScope s_baskets_in) s.heap.objs.size fa cdv))) :
    PSs (cxOf CX0 P w K mg base N_baskets_in "baskets_in" (defScope s_baskets_in) fa cdv A outer s H E).nox (defBody s_baskets_in) (tDS K u_baskets_in) := by
  unfold u_baskets_in
  refine (sd_one ?_); (focus (refine (sd_ret ?_); (focus (refine (pd_callB (cd_sum rfl) rfl n_sum DL.boot_sum ?_); (focus ((refine ad_cons (hs := ?hs) ?a ?_); (case hs => exact star_ns rfl); (case a => (refine (pd_l ?_); (focus (refine (ld_comp (N' := ["place", "run", "column"]) (cap := [none, none, some 0]) rfl (capOk_of rfl rfl) (fresh_tup (freshS_cons rfl (freshS_cons rfl freshS_nil))) ?_ (fun _ _ _ _ _ => (gd_tup rfl (gd_cons (gd_name nd_baskets_in_1 rfl (Or.inl rfl) (.inr rfl)) (gd_cons (gd_name nd_baskets_in_1 rfl (Or.inl rfl) (.inr rfl)) gd_nil)))) (fun _ _ _ _ _ => (cd_one ?_)) (fun _ _ _ _ _ => ?_)); (focus (refine (id_enum rfl n_enumerate ?_); (focus (exact (pd_var (pv 1)))))); (focus (refine (td_cmp (od_eq hr.units) ?_ pd_int); (focus (refine (pd_op od_mod ?_ pd_int); (focus (refine (pd_op od_shr ?_ ?_); (focus (exact (pd_var (pv 2)))); (focus (exact (pd_var (pv 0)))))))))); (focus (refine (pd_ix ?_ pd_int); (focus (exact (pd_var (pv 1)))))))))); exact ad_nil))))))
theorem ok_baskets_in {fa : Addr} {dV : Value} {fd : FuncData} (F : Fun2 K "baskets_in" "baskets_in" s_baskets_in dV fa fd) {a_column : Addr} {fd_column : FuncData} (c_column : Cal P w K mg base "column" 1 ["runs", "ware"] 2 f_column a_column fd_column) (n_sum : mg "sum" = none) (n_enumerate : mg "enumerate" = none) : FnOk P w K mg base CX0 2 fa fd ["column", "runs"] (spD K 2 f_baskets_in) :=
  F.okn (k := 1) (n := 2) (ar := 2) (k1 := 2) (u := u_baskets_in) sc_baskets_in rfl rfl rfl fun cdv A outer s H E hr => (by first | (with_reducible exact bd_baskets_in c_column n_sum n_enumerate hr) | exact bd_baskets_in c_column n_sum n_enumerate hr)
abbrev s_one_ware_more : Stmt := top 5
def N_one_ware_more : List Str := ["some", "wares", "first"]
theorem nd_one_ware_more : (N_one_ware_more).Nodup := by decide +kernel
theorem sc_one_ware_more : FnScope N_one_ware_more ["some", "wares"] (defScope s_one_ware_more) := ⟨rfl, rfl, rfl, nd_one_ware_more, rfl, by decide +kernel, by decide +kernel⟩
theorem nd_one_ware_more_1 : (["ware", "some"] : List Str).Nodup := by decide +kernel
def u_one_ware_more : FS := (sSeq (sSet 2 (eIf (bT (eV 0)) (eOp oPlus (eOp oIx (eV 0) (eUn oNeg (eC (.int 1)))) (eC (.int 1))) (eC (.int 0)))) (sRet (eL (lComp (iR2 (aCons (eV 2) (aCons (eV 1) aNil))) [none, some 0] (bN 0) cTrue (eOp oPlus (eV 1) (eTup (aCons (eV 0) aNil)))))))
def f_one_ware_more : List D → Option D := runFn 3 u_one_ware_more
set_option maxHeartbeats 4000000 in
theorem bd_one_ware_more {fa : Addr} {cdv : Value} {A : Around} {outer : List Env} {s : Shared} {H : Hp} {E : XK} (n_range : mg "range" = none) (hr : Room 0 (A.deeper (envOfC "one_ware_more" (defScope s_one_ware_more) s.heap.objs.size fa cdv))) :
    PSs (cxOf CX0 P w K mg base N_one_ware_more "one_ware_more" (defScope s_one_ware_more) fa cdv A outer s H E).nox (defBody s_one_ware_more) (tDS K u_one_ware_more) := by
  unfold u_one_ware_more
  refine (sd_cons ?_ ?_); (focus (refine (sd_set (i := 2) ?_ ?_ ?_ ?_ ?_ ?_); (focus (exact nd_one_ware_more)); (focus (exact rfl)); (focus (exact (Or.inl rfl))); (focus (refine (pd_if ?_ ?_ pd_int); (focus (refine (td_val ?_); (focus (exact (pd_var (pv 0)))))); (focus (refine (pd_op od_plus ?_ pd_int); (focus (refine (pd_ix ?_ ?_); (focus (exact (pd_var (pv 0)))); (focus (exact (pd_neg pd_int))))))))); (focus (exact rfl)); (focus (exact (by first | exact .inl rfl | exact .inr rfl | assumption))))); (focus (refine (sd_one ?_); (focus (refine (sd_ret ?_); (focus (refine (pd_l ?_); (focus (refine (ld_comp (N' := ["ware", "some"]) (cap := [none, some 0]) rfl (capOk_of rfl rfl) (fresh_name rfl) ?_ (fun _ _ _ _ _ => (gd_name nd_one_ware_more_1 rfl (Or.inl rfl) (.inr rfl))) (fun _ _ _ _ _ => cd_nil) (fun _ _ _ _ _ => ?_)); (focus (refine (id_range2 rfl n_range ?_); (focus ((refine ad_cons (hs := ?hs) ?a ?_); (case hs => exact star_ns rfl); (case a => (exact (pd_var (pv 2)))); (refine ad_cons (hs := ?hs) ?a ?_); (case hs => exact star_ns rfl); (case a => (exact (pd_var (pv 1)))); exact ad_nil)))); (focus (refine (pd_op od_plus ?_ ?_); (focus (exact (pd_var (pv 1)))); (focus (refine (pd_tup ?_); (focus ((refine ad_cons (hs := ?hs) ?a ?_); (case hs => exact star_ns rfl); (case a => (exact (pd_var (pv 0)))); exact ad_nil))))))))))))))
theorem ok_one_ware_more {fa : Addr} {dV : Value} {fd : FuncData} (F : Fun2 K "one_ware_more" "one_ware_more" s_one_ware_more dV fa fd) (n_range : mg "range" = none) : FnOk P w K mg base CX0 1 fa fd ["some", "wares"] (spD K 2 f_one_ware_more) :=
  F.okn (k := 0) (n := 3) (ar := 2) (k1 := 1) (u := u_one_ware_more) sc_one_ware_more rfl rfl rfl fun cdv A outer s H E hr => (by first | (with_reducible exact bd_one_ware_more n_range hr) | exact bd_one_ware_more n_range hr)
abbrev s_pairs_from : Stmt := top 17
def N_pairs_from : List Str := ["some", "column", "pile", "pile_columns", "least", "number", "found", "longer", "meet"]
theorem nd_pairs_from : (N_pairs_from).Nodup := by decide +kernel
theorem sc_pairs_from : FnScope N_pairs_from ["some", "column", "pile", "pile_columns", "least"] (defScope s_pairs_from) := ⟨rfl, rfl, rfl, nd_pairs_from, rfl, by decide +kernel, by decide +kernel⟩
def lb_pairs_from_1 (rc : List D → Option D) : FS := (sSeq (sSet 8 (eOp oBand (eV 1) (eOp oIx (eV 3) (eOp oIx (eV 7) (eUn oNeg (eC (.int 1))))))) (sExt 6 (eCall (callD 5 [] rc) (aCons (eV 7) (aCons (eV 8) (aCons (eV 2) (aCons (eV 3) (aCons (eV 4) aNil))))))))
def u_pairs_from (rc : List D → Option D) : FS := (sSeq (sSet 5 (eCall (callD 2 [] f_baskets_in) (aCons (eV 1) (aCons (eOp oIx (eV 2) (eC (.int 1))) aNil)))) (sSeq (sIf (bCmp oLt' (eV 5) (eV 4)) (sRet (eL (lLst aNil))) sNil) (sSeq (sOwn 6 (lLst (aCons (eTup (aCons (eV 0) (aCons (eV 5) aNil))) aNil))) (sSeq (sFor (iSeq (eCall (callD 2 [] f_one_ware_more) (aCons (eV 0) (aCons (eOp oIx (eV 2) (eC (.int 0))) aNil)))) (bN 7) (lb_pairs_from_1 rc)) (sFrz 6 (sRet (eV 6)))))))
def F_pairs_from (n : Nat) : List D → Option D := Nat.rec (fun _ => none) (fun _ rc => runFn 9 (u_pairs_from rc)) n
def f_pairs_from : List D → Option D := F_pairs_from 16
set_option maxHeartbeats 4000000 in
theorem bd_pairs_from {fa : Addr} {cdv : Value} {A : Around} {outer : List Env} {s : Shared} {H : Hp} {E : XK} {rc : List D → Option D} {kr kk : Nat} (hkr : kr ≤ kk) (hk0 : 2 ≤ kk) {a_pairs_from : Addr} {fd_pairs_from : FuncData} (c_pairs_from : Cal P w K mg base "pairs_from" kr ["some", "column", "pile", "pile_columns", "least"] 5 rc a_pairs_from fd_pairs_from) (b_pairs_from : Binds K fd_pairs_from ["some", "column", "pile", "pile_columns", "least"] []) {a_baskets_in : Addr} {fd_baskets_in : FuncData} (c_baskets_in : Cal P w K mg base "baskets_in" 2 ["column", "runs"] 2 f_baskets_in a_baskets_in fd_baskets_in) (b_baskets_in : Binds K fd_baskets_in ["column", "runs"] []) {a_column : Addr} {fd_column : FuncData} (c_column : Cal P w K mg base "column" 1 ["runs", "ware"] 2 f_column a_column fd_column) {a_one_ware_more : Addr} {fd_one_ware_more : FuncData} (c_one_ware_more : Cal P w K mg base "one_ware_more" 1 ["some", "wares"] 2 f_one_ware_more a_one_ware_more fd_one_ware_more) (b_one_ware_more : Binds K fd_one_ware_more ["some", "wares"] []) (hr : Room kk (A.deeper (envOfC "pairs_from" (defScope s_pairs_from) s.heap.objs.size fa cdv))) :
    PSs (cxOf CX0 P w K mg base N_pairs_from "pairs_from" (defScope s_pairs_from) fa cdv A outer s H E).nox (defBody s_pairs_from) (tDS K (u_pairs_from rc)) := by
  unfold u_pairs_from lb_pairs_from_1
  refine (sd_cons ?_ ?_); (focus (refine (sd_set (i := 5) ?_ ?_ ?_ ?_ ?_ ?_); (focus (exact nd_pairs_from)); (focus (exact rfl)); (focus (exact (Or.inl rfl))); (focus (refine (pd_cal c_baskets_in b_baskets_in hr (Nat.le_trans (by decide) hk0) rfl ?_); (focus ((refine ad_cons (hs := ?hs) ?a ?_); (case hs => exact star_ns rfl); (case a => (exact (pd_var (pv 1)))); (refine ad_cons (hs := ?hs) ?a ?_); (case hs => exact star_ns rfl); (case a => (refine (pd_ix ?_ pd_int); (focus (exact (pd_var (pv 2)))))); exact ad_nil)))); (focus (exact rfl)); (focus (exact (by first | exact .inl rfl | exact .inr rfl | assumption))))); (focus (refine (sd_cons ?_ ?_); (focus (refine (sd_if ?_ (sd_one ?_) sd_nil); (focus (refine (td_cmp od_lt' ?_ ?_); (focus (exact (pd_var (pv 5)))); (focus (exact (pd_var (pv 4)))))); (focus (refine (sd_ret ?_); (focus (refine (pd_l ?_); (focus (exact (ld_lst ad_nil))))))))); (focus (refine (sd_cons ?_ ?_); (focus (refine (sd_own (i := 6) nd_pairs_from rfl (Or.inl rfl) (ld_lst ?_)); (focus ((refine ad_cons (hs := ?hs) ?a ?_); (case hs => exact star_ns rfl); (case a => (refine (pd_tup ?_); (focus ((refine ad_cons (hs := ?hs) ?a ?_); (case hs => exact star_ns rfl); (case a => (exact (pd_var (pv 0)))); (refine ad_cons (hs := ?hs) ?a ?_); (case hs => exact star_ns rfl); (case a => (exact (pd_var (pv 5)))); exact ad_nil)))); exact ad_nil)))); (focus (refine (sd_cons ?_ ?_); (focus (refine (sd_for PassesOwn.never rfl ?_ (gd_name nd_pairs_from rfl (Or.inl rfl) (.inl rfl)) (sd_cons ?_ ?_)); (focus (refine (id_seq ?_); (focus (refine (pd_cal c_one_ware_more b_one_ware_more hr (Nat.le_trans (by decide) hk0) rfl ?_); (focus ((refine ad_cons (hs := ?hs) ?a ?_); (case hs => exact star_ns rfl); (case a => (exact (pd_var (pv 0)))); (refine ad_cons (hs := ?hs) ?a ?_); (case hs => exact star_ns rfl); (case a => (refine (pd_ix ?_ pd_int); (focus (exact (pd_var (pv 2)))))); exact ad_nil)))))); (focus (refine (sd_set (i := 8) ?_ ?_ ?_ ?_ ?_ ?_); (focus (exact nd_pairs_from)); (focus (exact rfl)); (focus (exact (Or.inl rfl))); (focus (refine (pd_op od_band ?_ ?_); (focus (exact (pd_var (pv 1)))); (focus (refine (pd_ix ?_ ?_); (focus (exact (pd_var (pv 3)))); (focus (refine (pd_ix ?_ ?_); (focus (exact (pd_var (pv 7)))); (focus (exact (pd_neg pd_int))))))))); (focus (exact rfl)); (focus (exact (by first | exact .inl rfl | exact .inr rfl | assumption))))); (focus (refine (sd_one ?_); (focus (refine (sd_ext (pv 6) ?_); (focus (refine (pd_cal c_pairs_from b_pairs_from hr hkr rfl ?_); (focus ((refine ad_cons (hs := ?hs) ?a ?_); (case hs => exact star_ns rfl); (case a => (exact (pd_var (pv 7)))); (refine ad_cons (hs := ?hs) ?a ?_); (case hs => exact star_ns rfl); (case a => (exact (pd_var (pv 8)))); (refine ad_cons (hs := ?hs) ?a ?_); (case hs => exact star_ns rfl); (case a => (exact (pd_var (pv 2)))); (refine ad_cons (hs := ?hs) ?a ?_); (case hs => exact star_ns rfl); (case a => (exact (pd_var (pv 3)))); (refine ad_cons (hs := ?hs) ?a ?_); (case hs => exact star_ns rfl); (case a => (exact (pd_var (pv 4)))); exact ad_nil)))))))))); (focus (refine (sd_frz 6 (sd_one ?_)); (focus (refine (sd_ret ?_); (focus (exact (pd_var (pv 6))))))))))))))
theorem ok_pairs_from {fa : Addr} {dV : Value} {fd : FuncData} (F : Fun2 K "pairs_from" "pairs_from" s_pairs_from dV fa fd) (mgf : mg "pairs_from" = some (.ref fa)) (kpf : PySem.W.keepIn K (.ref fa) = true) (b_pairs_from : Binds K fd ["some", "column", "pile", "pile_columns", "least"] []) {a_baskets_in : Addr} {fd_baskets_in : FuncData} (c_baskets_in : Cal P w K mg base "baskets_in" 2 ["column", "runs"] 2 f_baskets_in a_baskets_in fd_baskets_in) (b_baskets_in : Binds K fd_baskets_in ["column", "runs"] []) {a_column : Addr} {fd_column : FuncData} (c_column : Cal P w K mg base "column" 1 ["runs", "ware"] 2 f_column a_column fd_column) {a_one_ware_more : Addr} {fd_one_ware_more : FuncData} (c_one_ware_more : Cal P w K mg base "one_ware_more" 1 ["some", "wares"] 2 f_one_ware_more a_one_ware_more fd_one_ware_more) (b_one_ware_more : Binds K fd_one_ware_more ["some", "wares"] []) (n : Nat) : FnOk P w K mg base CX0 (3 + n) fa fd ["some", "column", "pile", "pile_columns", "least"] (spD K 5 (F_pairs_from n)) := by
  induction n with
  | zero => exact fnOk_none
  | succ n ih => exact F.okn (k := 3 + n) (n := 9) (ar := 5) (k1 := 3 + (n + 1)) (u := u_pairs_from (F_pairs_from n)) sc_pairs_from rfl rfl rfl fun cdv A outer s H E hr => (by exact bd_pairs_from (kr := 3 + n) (kk := 3 + n) (Nat.le_refl _) (by omega) (Cal.mk ih mgf kpf) b_pairs_from c_baskets_in b_baskets_in c_column c_one_ware_more b_one_ware_more hr)
abbrev s_columns : Stmt := top 9
def N_columns : List Str := ["pile"]
theorem nd_columns : (N_columns).Nodup := by decide +kernel
theorem sc_columns : FnScope N_columns ["pile"] (defScope s_columns) := ⟨rfl, rfl, rfl, nd_columns, rfl, by decide +kernel, by decide +kernel⟩
theorem nd_columns_1 : (["ware", "pile"] : List Str).Nodup := by decide +kernel
def u_columns : FS := (sRet (eCall oTuple (aCons (eL (lComp (iR1 (aCons (eOp oIx (eV 0) (eC (.int 0))) aNil)) [none, some 0] (bN 0) cTrue (eCall (callD 2 [] f_column) (aCons (eOp oIx (eV 1) (eC (.int 1))) (aCons (eV 0) aNil))))) aNil)))
def f_columns : List D → Option D := runFn 1 u_columns
set_option maxHeartbeats 4000000 in
theorem bd_columns {fa : Addr} {cdv : Value} {A : Around} {outer : List Env} {s : Shared} {H : Hp} {E : XK} {a_column : Addr} {fd_column : FuncData} (c_column : Cal P w K mg base "column" 1 ["runs", "ware"] 2 f_column a_column fd_column) (b_column : Binds K fd_column ["runs", "ware"] []) (n_tuple : mg "tuple" = none) (n_range : mg "range" = none) (hr : Room 1 (A.deeper (envOfC "columns" (defScope s_columns) s.heap.objs.size fa cdv))) :
    PSs (cxOf CX0 P w K mg base N_columns "columns" (defScope s_columns) fa cdv A outer s H E).nox (defBody s_columns) (tDS K u_columns) := by
  unfold u_columns
  refine (sd_one ?_); (focus (refine (sd_ret ?_); (focus (refine (pd_callTy (cd_tuple) rfl n_tuple DL.boot_tuple ?_); (focus ((refine ad_cons (hs := ?hs) ?a ?_); (case hs => exact star_ns rfl); (case a => (refine (pd_l ?_); (focus (refine (ld_comp (N' := ["ware", "pile"]) (cap := [none, some 0]) rfl (capOk_of rfl rfl) (fresh_name rfl) ?_ (fun _ _ _ _ _ => (gd_name nd_columns_1 rfl (Or.inl rfl) (.inr rfl))) (fun _ _ _ _ _ => cd_nil) (fun _ _ _ _ _ => ?_)); (focus (refine (id_range1 rfl n_range ?_); (focus ((refine ad_cons (hs := ?hs) ?a ?_); (case hs => exact star_ns rfl); (case a => (refine (pd_ix ?_ pd_int); (focus (exact (pd_var (pv 0)))))); exact ad_nil)))); (focus (refine (pd_cal c_column b_column hr (by decide) rfl ?_); (focus ((refine ad_cons (hs := ?hs) ?a ?_); (case hs => exact star_ns rfl); (case a => (refine (pd_ix ?_ pd_int); (focus (exact (pd_var (pv 1)))))); (refine ad_cons (hs := ?hs) ?a ?_); (case hs => exact star_ns rfl); (case a => (exact (pd_var (pv 0)))); exact ad_nil)))))))); exact ad_nil))))))
theorem ok_columns {fa : Addr} {dV : Value} {fd : FuncData} (F : Fun2 K "columns" "columns" s_columns dV fa fd) {a_column : Addr} {fd_column : FuncData} (c_column : Cal P w K mg base "column" 1 ["runs", "ware"] 2 f_column a_column fd_column) (b_column : Binds K fd_column ["runs", "ware"] []) (n_tuple : mg "tuple" = none) (n_range : mg "range" = none) : FnOk P w K mg base CX0 2 fa fd ["pile"] (spD K 1 f_columns) :=
  F.okn (k := 1) (n := 1) (ar := 1) (k1 := 2) (u := u_columns) sc_columns rfl rfl rfl fun cdv A outer s H E hr => (by first | (with_reducible exact bd_columns c_column b_column n_tuple n_range hr) | exact bd_columns c_column b_column n_tuple n_range hr)
abbrev s_Meeting_often : Stmt := topM 18 0
def N_Meeting_often : List Str := ["self", "pile", "least", "all_runs"]
theorem nd_Meeting_often : (N_Meeting_often).Nodup := by decide +kernel
theorem sc_Meeting_often : FnScope N_Meeting_often ["self", "pile", "least"] (defScope s_Meeting_often) := ⟨rfl, rfl, rfl, nd_Meeting_often, rfl, by decide +kernel, by decide +kernel⟩
def u_Meeting_often : FS := (sSeq (sSet 3 (eOp oSub (eOp oShl (eC (.int 1)) (eCall oLen (aCons (eOp oIx (eV 1) (eC (.int 1))) aNil))) (eC (.int 1)))) (sRet (eCall (callD 1 [] f_in_order) (aCons (eCall (callD 5 [] f_pairs_from) (aCons (eTup aNil) (aCons (eV 3) (aCons (eV 1) (aCons (eCall (callD 1 [] f_columns) (aCons (eV 1) aNil)) (aCons (eV 2) aNil)))))) aNil))))
def f_Meeting_often : List D → Option D := runFn 4 u_Meeting_often
set_option maxHeartbeats 4000000 in
theorem bd_Meeting_often {fa : Addr} {cdv : Value} {A : Around} {outer : List Env} {s : Shared} {H : Hp} {E : XK} {a_in_order : Addr} {fd_in_order : FuncData} (c_in_order : Cal P w K mg base "in_order" 5 ["pairs"] 1 f_in_order a_in_order fd_in_order) (b_in_order : Binds K fd_in_order ["pairs"] []) {a_pairs_from : Addr} {fd_pairs_from : FuncData} (c_pairs_from : Cal P w K mg base "pairs_from" 19 ["some", "column", "pile", "pile_columns", "least"] 5 f_pairs_from a_pairs_from fd_pairs_from) (b_pairs_from : Binds K fd_pairs_from ["some", "column", "pile", "pile_columns", "least"] []) {a_columns : Addr} {fd_columns : FuncData} (c_columns : Cal P w K mg base "columns" 2 ["pile"] 1 f_columns a_columns fd_columns) (b_columns : Binds K fd_columns ["pile"] []) (n_len : mg "len" = none) (hr : Room 19 (A.deeper (envOfC "Meeting.often" (defScope s_Meeting_often) s.heap.objs.size fa cdv))) :
    PSs (cxOf CX0 P w K mg base N_Meeting_often "Meeting.often" (defScope s_Meeting_often) fa cdv A outer s H E).nox (defBody s_Meeting_often) (tDS K u_Meeting_often) := by
  unfold u_Meeting_often
  refine (sd_cons ?_ ?_); (focus (refine (sd_set (i := 3) ?_ ?_ ?_ ?_ ?_ ?_); (focus (exact nd_Meeting_often)); (focus (exact rfl)); (focus (exact (Or.inl rfl))); (focus (refine (pd_op od_sub ?_ pd_int); (focus (refine (pd_op od_shl pd_int ?_); (focus (refine (pd_callB (cd_len) rfl n_len DL.boot_len' ?_); (focus ((refine ad_cons (hs := ?hs) ?a ?_); (case hs => exact star_ns rfl); (case a => (refine (pd_ix ?_ pd_int); (focus (exact (pd_var (pv 1)))))); exact ad_nil)))))))); (focus (exact rfl)); (focus (exact (by first | exact .inl rfl | exact .inr rfl | assumption))))); (focus (refine (sd_one ?_); (focus (refine (sd_ret ?_); (focus (refine (pd_cal c_in_order b_in_order hr (by decide) rfl ?_); (focus ((refine ad_cons (hs := ?hs) ?a ?_); (case hs => exact star_ns rfl); (case a => (refine (pd_cal c_pairs_from b_pairs_from hr (by decide) rfl ?_); (focus ((refine ad_cons (hs := ?hs) ?a ?_); (case hs => exact star_ns rfl); (case a => (exact (pd_tup ad_nil))); (refine ad_cons (hs := ?hs) ?a ?_); (case hs => exact star_ns rfl); (case a => (exact (pd_var (pv 3)))); (refine ad_cons (hs := ?hs) ?a ?_); (case hs => exact star_ns rfl); (case a => (exact (pd_var (pv 1)))); (refine ad_cons (hs := ?hs) ?a ?_); (case hs => exact star_ns rfl); (case a => (refine (pd_cal c_columns b_columns hr (by decide) rfl ?_); (focus ((refine ad_cons (hs := ?hs) ?a ?_); (case hs => exact star_ns rfl); (case a => (exact (pd_var (pv 1)))); exact ad_nil)))); (refine ad_cons (hs := ?hs) ?a ?_); (case hs => exact star_ns rfl); (case a => (exact (pd_var (pv 2)))); exact ad_nil)))); exact ad_nil))))))))
theorem ok_Meeting_often {fa : Addr} {dV : Value} {fd : FuncData} (F : Fun2 K "often" "Meeting.often" s_Meeting_often dV fa fd) {a_in_order : Addr} {fd_in_order : FuncData} (c_in_order : Cal P w K mg base "in_order" 5 ["pairs"] 1 f_in_order a_in_order fd_in_order) (b_in_order : Binds K fd_in_order ["pairs"] []) {a_pairs_from : Addr} {fd_pairs_from : FuncData} (c_pairs_from : Cal P w K mg base "pairs_from" 19 ["some", "column", "pile", "pile_columns", "least"] 5 f_pairs_from a_pairs_from fd_pairs_from) (b_pairs_from : Binds K fd_pairs_from ["some", "column", "pile", "pile_columns", "least"] []) {a_columns : Addr} {fd_columns : FuncData} (c_columns : Cal P w K mg base "columns" 2 ["pile"] 1 f_columns a_columns fd_columns) (b_columns : Binds K fd_columns ["pile"] []) (n_len : mg "len" = none) : FnOk P w K mg base CX0 20 fa fd ["self", "pile", "least"] (spD K 3 f_Meeting_often) :=
  F.okn (k := 19) (n := 4) (ar := 3) (k1 := 20) (u := u_Meeting_often) sc_Meeting_often rfl rfl rfl fun cdv A outer s H E hr => (by first | (with_reducible exact bd_Meeting_often c_in_order b_in_order c_pairs_from b_pairs_from c_columns b_columns n_len hr) | exact bd_Meeting_often c_in_order b_in_order c_pairs_from b_pairs_from c_columns b_columns n_len hr)
abbrev s_law : Stmt := top 32
def N_law : List Str := ["_law_script", "_law_wares", "_law_pile_here", "_law_counts_here", "_law_least_here", "_law_due", "_law_way", "_law_other"]
theorem nd_law : (N_law).Nodup := by decide +kernel
theorem sc_law : FnScope N_law ["_law_script"] (defScope s_law) := ⟨rfl, rfl, rfl, nd_law, rfl, by decide +kernel, by decide +kernel⟩
theorem nd_law_1 : (["_law_mark", "_law_least_here", "_law_counts_here"] : List Str).Nodup := by decide +kernel
def u_law : FS := (sSeq (sSet 1 (eOp oMod (eOp oDiv (eCall (callD 2 [] f_law_cell) (aCons (eV 0) (aCons (eC (.int 0)) aNil))) (eC (.int 2))) (eC (.int 7)))) (sSeq (sSet 2 (eCall (callD 3 [] f_law_pile) (aCons (eV 0) (aCons (eV 1) (aCons (eC (.int 61)) aNil))))) (sSeq (sSet 3 (eCall (callD 1 [] f_law_counts) (aCons (eV 2) aNil))) (sSeq (sSet 4 (eCall (callD 2 [] f_law_least) (aCons (eV 0) (aCons (eV 3) aNil)))) (sSeq (sSet 5 (eCall (callD 2 [] f_law_pairs) (aCons (eL (lComp (iR1 (aCons (eCall oLen (aCons (eV 3) aNil)) aNil)) [none, some 4, some 3] (bN 0) (bCmp oGe (eOp oIx (eV 2) (eV 0)) (eV 1)) (eV 0))) (aCons (eV 3) aNil)))) (sSeq (sSet 6 (eC (.obj "Meeting"))) (sSeq (sIf (bNot (bT (eCall (callD 2 [] f_law_same) (aCons (eMet "Meeting" 3 f_Meeting_often (eV 6) (aCons (eV 2) (aCons (eV 4) aNil))) (aCons (eV 5) aNil))))) (sRet (eC (.bl false))) sNil) (sSeq (sSet 7 (eTup (aCons (eC (.int 2)) (aCons (eTup (aCons (eTup (aCons (eC (.int 3)) (aCons (eTup (aCons (eC (.int 0)) aNil)) aNil))) (aCons (eTup (aCons (eC (.int 1)) (aCons (eTup (aCons (eC (.int 0)) (aCons (eC (.int 1)) aNil))) aNil))) (aCons (eTup (aCons (eC (.int 2)) (aCons (eTup aNil) aNil))) aNil)))) aNil)))) (sSeq (sIf (bOr (bNot (bT (eCall (callD 2 [] f_law_same) (aCons (eMet "Meeting" 3 f_Meeting_often (eV 6) (aCons (eV 7) (aCons (eC (.int 2)) aNil))) (aCons (eL (lLst (aCons (eTup (aCons (eTup aNil) (aCons (eC (.int 6)) aNil))) (aCons (eTup (aCons (eTup (aCons (eC (.int 0)) aNil)) (aCons (eC (.int 4)) aNil))) aNil)))) aNil))))) (bCmp oNe2 (eMet "Meeting" 3 f_Meeting_often (eV 6) (aCons (eTup (aCons (eC (.int 0)) (aCons (eTup aNil) aNil))) (aCons (eC (.int 1)) aNil))) (eTup aNil))) (sRet (eC (.bl false))) sNil) (sSeq (sIf (bOr (bNot (bT (eCall (callD 2 [] f_law_same) (aCons (eMet "Meeting" 3 f_Meeting_often (eV 6) (aCons (eTup (aCons (eC (.int 0)) (aCons (eTup (aCons (eTup (aCons (eC (.int 5)) (aCons (eTup aNil) aNil))) (aCons (eTup (aCons (eC (.int 2)) (aCons (eTup aNil) aNil))) aNil))) aNil))) (aCons (eC (.int 7)) aNil))) (aCons (eL (lLst (aCons (eTup (aCons (eTup aNil) (aCons (eC (.int 7)) aNil))) aNil))) aNil))))) (bCmp oNe2 (eMet "Meeting" 3 f_Meeting_often (eV 6) (aCons (eV 7) (aCons (eC (.int 7)) aNil))) (eTup aNil))) (sRet (eC (.bl false))) sNil) (sRet (eCall (callD 2 [] f_law_same) (aCons (eMet "Meeting" 3 f_Meeting_often (eV 6) (aCons (eV 2) (aCons (eV 4) aNil))) (aCons (eV 5) aNil))))))))))))))
def f_law : List D → Option D := runFn 8 u_law
set_option maxHeartbeats 4000000 in
theorem bd_law {fa : Addr} {cdv : Value} {A : Around} {outer : List Env} {s : Shared} {H : Hp} {E : XK} {C_Meeting : Addr} (O_Meeting : ClsOk K "Meeting" C_Meeting) (m_Meeting : mg "Meeting" = some (.ref C_Meeting)) {a__law_pile : Addr} {fd__law_pile : FuncData} (c__law_pile : Cal P w K mg base "_law_pile" 3 ["_law_script", "_law_wares", "_law_most_runs"] 3 f_law_pile a__law_pile fd__law_pile) (b__law_pile : Binds K fd__law_pile ["_law_script", "_law_wares", "_law_most_runs"] []) {a__law_counts : Addr} {fd__law_counts : FuncData} (c__law_counts : Cal P w K mg base "_law_counts" 2 ["_law_pile_here"] 1 f_law_counts a__law_counts fd__law_counts) (b__law_counts : Binds K fd__law_counts ["_law_pile_here"] []) {a__law_least : Addr} {fd__law_least : FuncData} (c__law_least : Cal P w K mg base "_law_least" 2 ["_law_script", "_law_counts_here"] 2 f_law_least a__law_least fd__law_least) (b__law_least : Binds K fd__law_least ["_law_script", "_law_counts_here"] []) {a__law_pairs : Addr} {fd__law_pairs : FuncData} (c__law_pairs : Cal P w K mg base "_law_pairs" 3 ["_law_marks_here", "_law_counts_here"] 2 f_law_pairs a__law_pairs fd__law_pairs) (b__law_pairs : Binds K fd__law_pairs ["_law_marks_here", "_law_counts_here"] []) {a__law_same : Addr} {fd__law_same : FuncData} (c__law_same : Cal P w K mg base "_law_same" 2 ["_law_found", "_law_due"] 2 f_law_same a__law_same fd__law_same) (b__law_same : Binds K fd__law_same ["_law_found", "_law_due"] []) {a_Meeting_often : Addr} {fd_Meeting_often : FuncData} (c_Meeting_often : CalM P w K mg base "Meeting" "often" C_Meeting 20 ["self", "pile", "least"] 3 f_Meeting_often a_Meeting_often fd_Meeting_often) (b_Meeting_often : Binds K fd_Meeting_often ["self", "pile", "least"] []) {a__law_cell : Addr} {fd__law_cell : FuncData} (c__law_cell : Cal P w K mg base "_law_cell" 1 ["_law_script", "_law_k"] 2 f_law_cell a__law_cell fd__law_cell) (b__law_cell : Binds K fd__law_cell ["_law_script", "_law_k"] []) (n_range : mg "range" = none) (n_len : mg "len" = none) (hr : Room 20 (A.deeper (envOfC "law" (defScope s_law) s.heap.objs.size fa cdv))) :
    PSs (cxOf CX0 P w K mg base N_law "law" (defScope s_law) fa cdv A outer s H E).nox (defBody s_law) (tDS K u_law) := by
  unfold u_law
  refine (sd_cons ?_ ?_); (focus (refine (sd_set (i := 1) ?_ ?_ ?_ ?_ ?_ ?_); (focus (exact nd_law)); (focus (exact rfl)); (focus (exact (Or.inl rfl))); (focus (refine (pd_op od_mod ?_ pd_int); (focus (refine (pd_op od_div ?_ pd_int); (focus (refine (pd_cal c__law_cell b__law_cell hr (by decide) rfl ?_); (focus ((refine ad_cons (hs := ?hs) ?a ?_); (case hs => exact star_ns rfl); (case a => (exact (pd_var (pv 0)))); (refine ad_cons (hs := ?hs) ?a ?_); (case hs => exact star_ns rfl); (case a => (exact pd_int)); exact ad_nil)))))))); (focus (exact rfl)); (focus (exact (by first | exact .inl rfl | exact .inr rfl | assumption))))); (focus (refine (sd_cons ?_ ?_); (focus (refine (sd_set (i := 2) ?_ ?_ ?_ ?_ ?_ ?_); (focus (exact nd_law)); (focus (exact rfl)); (focus (exact (Or.inl rfl))); (focus (refine (pd_cal c__law_pile b__law_pile hr (by decide) rfl ?_); (focus ((refine ad_cons (hs := ?hs) ?a ?_); (case hs => exact star_ns rfl); (case a => (exact (pd_var (pv 0)))); (refine ad_cons (hs := ?hs) ?a ?_); (case hs => exact star_ns rfl); (case a => (exact (pd_var (pv 1)))); (refine ad_cons (hs := ?hs) ?a ?_); (case hs => exact star_ns rfl); (case a => (exact pd_int)); exact ad_nil)))); (focus (exact rfl)); (focus (exact (by first | exact .inl rfl | exact .inr rfl | assumption))))); (focus (refine (sd_cons ?_ ?_); (focus (refine (sd_set (i := 3) ?_ ?_ ?_ ?_ ?_ ?_); (focus (exact nd_law)); (focus (exact rfl)); (focus (exact (Or.inr rfl))); (focus (refine (pd_cal c__law_counts b__law_counts hr (by decide) rfl ?_); (focus ((refine ad_cons (hs := ?hs) ?a ?_); (case hs => exact star_ns rfl); (case a => (exact (pd_var (pv 2)))); exact ad_nil)))); (focus (exact rfl)); (focus (exact (by first | exact .inl rfl | exact .inr rfl | assumption))))); (focus (refine (sd_cons ?_ ?_); (focus (refine (sd_set (i := 4) ?_ ?_ ?_ ?_ ?_ ?_); (focus (exact nd_law)); (focus (exact rfl)); (focus (exact (Or.inr rfl))); (focus (refine (pd_cal c__law_least b__law_least hr (by decide) rfl ?_); (focus ((refine ad_cons (hs := ?hs) ?a ?_); (case hs => exact star_ns rfl); (case a => (exact (pd_var (pv 0)))); (refine ad_cons (hs := ?hs) ?a ?_); (case hs => exact star_ns rfl); (case a => (exact (pd_var (pv 3)))); exact ad_nil)))); (focus (exact rfl)); (focus (exact (by first | exact .inl rfl | exact .inr rfl | assumption))))); (focus (refine (sd_cons ?_ ?_); (focus (refine (sd_set (i := 5) ?_ ?_ ?_ ?_ ?_ ?_); (focus (exact nd_law)); (focus (exact rfl)); (focus (exact (Or.inl rfl))); (focus (refine (pd_cal c__law_pairs b__law_pairs hr (by decide) rfl ?_); (focus ((refine ad_cons (hs := ?hs) ?a ?_); (case hs => exact star_ns rfl); (case a => (refine (pd_l ?_); (focus (refine (ld_comp (N' := ["_law_mark", "_law_least_here", "_law_counts_here"]) (cap := [none, some 4, some 3]) rfl (capOk_of rfl rfl) (fresh_name rfl) ?_ (fun _ _ _ _ _ => (gd_name nd_law_1 rfl (Or.inl rfl) (.inr rfl))) (fun _ _ _ _ _ => (cd_one ?_)) (fun _ _ _ _ _ => ?_)); (focus (refine (id_range1 rfl n_range ?_); (focus ((refine ad_cons (hs := ?hs) ?a ?_); (case hs => exact star_ns rfl); (case a => (refine (pd_callB (cd_len) rfl n_len DL.boot_len' ?_); (focus ((refine ad_cons (hs := ?hs) ?a ?_); (case hs => exact star_ns rfl); (case a => (exact (pd_var (pv 3)))); exact ad_nil)))); exact ad_nil)))); (focus (refine (td_cmp od_ge ?_ ?_); (focus (refine (pd_ix ?_ ?_); (focus (exact (pd_var (pv 2)))); (focus (exact (pd_var (pv 0)))))); (focus (exact (pd_var (pv 1)))))); (focus (exact (pd_var (pv 0)))))))); (refine ad_cons (hs := ?hs) ?a ?_); (case hs => exact star_ns rfl); (case a => (exact (pd_var (pv 3)))); exact ad_nil)))); (focus (exact rfl)); (focus (exact (by first | exact .inl rfl | exact .inr rfl | assumption))))); (focus (refine (sd_cons ?_ ?_); (focus (refine (sd_set (i := 6) ?_ ?_ ?_ ?_ ?_ ?_); (focus (exact nd_law)); (focus (exact rfl)); (focus (exact (Or.inl rfl))); (focus (exact (pd_new O_Meeting m_Meeting rfl))); (focus (exact rfl)); (focus (exact (by first | exact .inl rfl | exact .inr rfl | assumption))))); (focus (refine (sd_cons ?_ ?_); (focus (refine (sd_if ?_ (sd_one ?_) sd_nil); (focus (refine (td_not ?_); (focus (refine (td_val ?_); (focus (refine (pd_cal c__law_same b__law_same hr (by decide) rfl ?_); (focus ((refine ad_cons (hs := ?hs) ?a ?_); (case hs => exact star_ns rfl); (case a => (refine (pd_met O_Meeting c_Meeting_often b_Meeting_often hr (by decide) ?_ ?_); (focus (exact (pd_var (pv 6)))); (focus ((refine ad_cons (hs := ?hs) ?a ?_); (case hs => exact star_ns rfl); (case a => (exact (pd_var (pv 2)))); (refine ad_cons (hs := ?hs) ?a ?_); (case hs => exact star_ns rfl); (case a => (exact (pd_var (pv 4)))); exact ad_nil)))); (refine ad_cons (hs := ?hs) ?a ?_); (case hs => exact star_ns rfl); (case a => (exact (pd_var (pv 5)))); exact ad_nil)))))))); (focus (exact (sd_ret pd_bl))))); (focus (refine (sd_cons ?_ ?_); (focus (refine (sd_set (i := 7) ?_ ?_ ?_ ?_ ?_ ?_); (focus (exact nd_law)); (focus (exact rfl)); (focus (exact (Or.inl rfl))); (focus (refine (pd_tup ?_); (focus ((refine ad_cons (hs := ?hs) ?a ?_); (case hs => exact star_ns rfl); (case a => (exact pd_int)); (refine ad_cons (hs := ?hs) ?a ?_); (case hs => exact star_ns rfl); (case a => (refine (pd_tup ?_); (focus ((refine ad_cons (hs := ?hs) ?a ?_); (case hs => exact star_ns rfl); (case a => (refine (pd_tup ?_); (focus ((refine ad_cons (hs := ?hs) ?a ?_); (case hs => exact star_ns rfl); (case a => (exact pd_int)); (refine ad_cons (hs := ?hs) ?a ?_); (case hs => exact star_ns rfl); (case a => (refine (pd_tup ?_); (focus ((refine ad_cons (hs := ?hs) ?a ?_); (case hs => exact star_ns rfl); (case a => (exact pd_int)); exact ad_nil)))); exact ad_nil)))); (refine ad_cons (hs := ?hs) ?a ?_); (case hs => exact star_ns rfl); (case a => (refine (pd_tup ?_); (focus ((refine ad_cons (hs := ?hs) ?a ?_); (case hs => exact star_ns rfl); (case a => (exact pd_int)); (refine ad_cons (hs := ?hs) ?a ?_); (case hs => exact star_ns rfl); (case a => (refine (pd_tup ?_); (focus ((refine ad_cons (hs := ?hs) ?a ?_); (case hs => exact star_ns rfl); (case a => (exact pd_int)); (refine ad_cons (hs := ?hs) ?a ?_); (case hs => exact star_ns rfl); (case a => (exact pd_int)); exact ad_nil)))); exact ad_nil)))); (refine ad_cons (hs := ?hs) ?a ?_); (case hs => exact star_ns rfl); (case a => (refine (pd_tup ?_); (focus ((refine ad_cons (hs := ?hs) ?a ?_); (case hs => exact star_ns rfl); (case a => (exact pd_int)); (refine ad_cons (hs := ?hs) ?a ?_); (case hs => exact star_ns rfl); (case a => (exact (pd_tup ad_nil))); exact ad_nil)))); exact ad_nil)))); exact ad_nil)))); (focus (exact rfl)); (focus (exact (by first | exact .inl rfl | exact .inr rfl | assumption))))); (focus (refine (sd_cons ?_ ?_); (focus (refine (sd_if ?_ (sd_one ?_) sd_nil); (focus (refine (PW.pt (tw_or ?_ (tw_or1 ?_))); (focus (refine (td_not ?_); (focus (refine (td_val ?_); (focus (refine (pd_cal c__law_same b__law_same hr (by decide) rfl ?_); (focus ((refine ad_cons (hs := ?hs) ?a ?_); (case hs => exact star_ns rfl); (case a => (refine (pd_met O_Meeting c_Meeting_often b_Meeting_often hr (by decide) ?_ ?_); (focus (exact (pd_var (pv 6)))); (focus ((refine ad_cons (hs := ?hs) ?a ?_); (case hs => exact star_ns rfl); (case a => (exact (pd_var (pv 7)))); (refine ad_cons (hs := ?hs) ?a ?_); (case hs => exact star_ns rfl); (case a => (exact pd_int)); exact ad_nil)))); (refine ad_cons (hs := ?hs) ?a ?_); (case hs => exact star_ns rfl); (case a => (refine (pd_l ?_); (focus (refine (ld_lst ?_); (focus ((refine ad_cons (hs := ?hs) ?a ?_); (case hs => exact star_ns rfl); (case a => (refine (pd_tup ?_); (focus ((refine ad_cons (hs := ?hs) ?a ?_); (case hs => exact star_ns rfl); (case a => (exact (pd_tup ad_nil))); (refine ad_cons (hs := ?hs) ?a ?_); (case hs => exact star_ns rfl); (case a => (exact pd_int)); exact ad_nil)))); (refine ad_cons (hs := ?hs) ?a ?_); (case hs => exact star_ns rfl); (case a => (refine (pd_tup ?_); (focus ((refine ad_cons (hs := ?hs) ?a ?_); (case hs => exact star_ns rfl); (case a => (refine (pd_tup ?_); (focus ((refine ad_cons (hs := ?hs) ?a ?_); (case hs => exact star_ns rfl); (case a => (exact pd_int)); exact ad_nil)))); (refine ad_cons (hs := ?hs) ?a ?_); (case hs => exact star_ns rfl); (case a => (exact pd_int)); exact ad_nil)))); exact ad_nil)))))); exact ad_nil)))))))); (focus (refine (td_cmp (od_ne2 hr.units) ?_ ?_); (focus (refine (pd_met O_Meeting c_Meeting_often b_Meeting_often hr (by decide) ?_ ?_); (focus (exact (pd_var (pv 6)))); (focus ((refine ad_cons (hs := ?hs) ?a ?_); (case hs => exact star_ns rfl); (case a => (refine (pd_tup ?_); (focus ((refine ad_cons (hs := ?hs) ?a ?_); (case hs => exact star_ns rfl); (case a => (exact pd_int)); (refine ad_cons (hs := ?hs) ?a ?_); (case hs => exact star_ns rfl); (case a => (exact (pd_tup ad_nil))); exact ad_nil)))); (refine ad_cons (hs := ?hs) ?a ?_); (case hs => exact star_ns rfl); (case a => (exact pd_int)); exact ad_nil)))); (focus (exact (pd_tup ad_nil))))))); (focus (exact (sd_ret pd_bl))))); (focus (refine (sd_cons ?_ ?_); (focus (refine (sd_if ?_ (sd_one ?_) sd_nil); (focus (refine (PW.pt (tw_or ?_ (tw_or1 ?_))); (focus (refine (td_not ?_); (focus (refine (td_val ?_); (focus (refine (pd_cal c__law_same b__law_same hr (by decide) rfl ?_); (focus ((refine ad_cons (hs := ?hs) ?a ?_); (case hs => exact star_ns rfl); (case a => (refine (pd_met O_Meeting c_Meeting_often b_Meeting_often hr (by decide) ?_ ?_); (focus (exact (pd_var (pv 6)))); (focus ((refine ad_cons (hs := ?hs) ?a ?_); (case hs => exact star_ns rfl); (case a => (refine (pd_tup ?_); (focus ((refine ad_cons (hs := ?hs) ?a ?_); (case hs => exact star_ns rfl); (case a => (exact pd_int)); (refine ad_cons (hs := ?hs) ?a ?_); (case hs => exact star_ns rfl); (case a => (refine (pd_tup ?_); (focus ((refine ad_cons (hs := ?hs) ?a ?_); (case hs => exact star_ns rfl); (case a => (refine (pd_tup ?_); (focus ((refine ad_cons (hs := ?hs) ?a ?_); (case hs => exact star_ns rfl); (case a => (exact pd_int)); (refine ad_cons (hs := ?hs) ?a ?_); (case hs => exact star_ns rfl); (case a => (exact (pd_tup ad_nil))); exact ad_nil)))); (refine ad_cons (hs := ?hs) ?a ?_); (case hs => exact star_ns rfl); (case a => (refine (pd_tup ?_); (focus ((refine ad_cons (hs := ?hs) ?a ?_); (case hs => exact star_ns rfl); (case a => (exact pd_int)); (refine ad_cons (hs := ?hs) ?a ?_); (case hs => exact star_ns rfl); (case a => (exact (pd_tup ad_nil))); exact ad_nil)))); exact ad_nil)))); exact ad_nil)))); (refine ad_cons (hs := ?hs) ?a ?_); (case hs => exact star_ns rfl); (case a => (exact pd_int)); exact ad_nil)))); (refine ad_cons (hs := ?hs) ?a ?_); (case hs => exact star_ns rfl); (case a => (refine (pd_l ?_); (focus (refine (ld_lst ?_); (focus ((refine ad_cons (hs := ?hs) ?a ?_); (case hs => exact star_ns rfl); (case a => (refine (pd_tup ?_); (focus ((refine ad_cons (hs := ?hs) ?a ?_); (case hs => exact star_ns rfl); (case a => (exact (pd_tup ad_nil))); (refine ad_cons (hs := ?hs) ?a ?_); (case hs => exact star_ns rfl); (case a => (exact pd_int)); exact ad_nil)))); exact ad_nil)))))); exact ad_nil)))))))); (focus (refine (td_cmp (od_ne2 hr.units) ?_ ?_); (focus (refine (pd_met O_Meeting c_Meeting_often b_Meeting_often hr (by decide) ?_ ?_); (focus (exact (pd_var (pv 6)))); (focus ((refine ad_cons (hs := ?hs) ?a ?_); (case hs => exact star_ns rfl); (case a => (exact (pd_var (pv 7)))); (refine ad_cons (hs := ?hs) ?a ?_); (case hs => exact star_ns rfl); (case a => (exact pd_int)); exact ad_nil)))); (focus (exact (pd_tup ad_nil))))))); (focus (exact (sd_ret pd_bl))))); (focus (refine (sd_one ?_); (focus (refine (sd_ret ?_); (focus (refine (pd_cal c__law_same b__law_same hr (by decide) rfl ?_); (focus ((refine ad_cons (hs := ?hs) ?a ?_); (case hs => exact star_ns rfl); (case a => (refine (pd_met O_Meeting c_Meeting_often b_Meeting_often hr (by decide) ?_ ?_); (focus (exact (pd_var (pv 6)))); (focus ((refine ad_cons (hs := ?hs) ?a ?_); (case hs => exact star_ns rfl); (case a => (exact (pd_var (pv 2)))); (refine ad_cons (hs := ?hs) ?a ?_); (case hs => exact star_ns rfl); (case a => (exact (pd_var (pv 4)))); exact ad_nil)))); (refine ad_cons (hs := ?hs) ?a ?_); (case hs => exact star_ns rfl); (case a => (exact (pd_var (pv 5)))); exact ad_nil))))))))))))))))))))))))))
theorem ok_law {fa : Addr} {dV : Value} {fd : FuncData} (F : Fun2 K "law" "law" s_law dV fa fd) {C_Meeting : Addr} (O_Meeting : ClsOk K "Meeting" C_Meeting) (m_Meeting : mg "Meeting" = some (.ref C_Meeting)) {a__law_pile : Addr} {fd__law_pile : FuncData} (c__law_pile : Cal P w K mg base "_law_pile" 3 ["_law_script", "_law_wares", "_law_most_runs"] 3 f_law_pile a__law_pile fd__law_pile) (b__law_pile : Binds K fd__law_pile ["_law_script", "_law_wares", "_law_most_runs"] []) {a__law_counts : Addr} {fd__law_counts : FuncData} (c__law_counts : Cal P w K mg base "_law_counts" 2 ["_law_pile_here"] 1 f_law_counts a__law_counts fd__law_counts) (b__law_counts : Binds K fd__law_counts ["_law_pile_here"] []) {a__law_least : Addr} {fd__law_least : FuncData} (c__law_least : Cal P w K mg base "_law_least" 2 ["_law_script", "_law_counts_here"] 2 f_law_least a__law_least fd__law_least) (b__law_least : Binds K fd__law_least ["_law_script", "_law_counts_here"] []) {a__law_pairs : Addr} {fd__law_pairs : FuncData} (c__law_pairs : Cal P w K mg base "_law_pairs" 3 ["_law_marks_here", "_law_counts_here"] 2 f_law_pairs a__law_pairs fd__law_pairs) (b__law_pairs : Binds K fd__law_pairs ["_law_marks_here", "_law_counts_here"] []) {a__law_same : Addr} {fd__law_same : FuncData} (c__law_same : Cal P w K mg base "_law_same" 2 ["_law_found", "_law_due"] 2 f_law_same a__law_same fd__law_same) (b__law_same : Binds K fd__law_same ["_law_found", "_law_due"] []) {a_Meeting_often : Addr} {fd_Meeting_often : FuncData} (c_Meeting_often : CalM P w K mg base "Meeting" "often" C_Meeting 20 ["self", "pile", "least"] 3 f_Meeting_often a_Meeting_often fd_Meeting_often) (b_Meeting_often : Binds K fd_Meeting_often ["self", "pile", "least"] []) {a__law_cell : Addr} {fd__law_cell : FuncData} (c__law_cell : Cal P w K mg base "_law_cell" 1 ["_law_script", "_law_k"] 2 f_law_cell a__law_cell fd__law_cell) (b__law_cell : Binds K fd__law_cell ["_law_script", "_law_k"] []) (n_range : mg "range" = none) (n_len : mg "len" = none) : FnOk P w K mg base CX0 21 fa fd ["_law_script"] (spD K 1 f_law) :=
  F.okn (k := 20) (n := 8) (ar := 1) (k1 := 21) (u := u_law) sc_law rfl rfl rfl fun cdv A outer s H E hr => (by first | (with_reducible exact bd_law O_Meeting m_Meeting c__law_pile b__law_pile c__law_counts b__law_counts c__law_least b__law_least c__law_pairs b__law_pairs c__law_same b__law_same c_Meeting_often b_Meeting_often c__law_cell b__law_cell n_range n_len hr) | exact bd_law O_Meeting m_Meeting c__law_pile b__law_pile c__law_counts b__law_counts c__law_least b__law_least c__law_pairs b__law_pairs c__law_same b__law_same c_Meeting_often b_Meeting_often c__law_cell b__law_cell n_range n_len hr)
end
end My
set_option maxRecDepth 100000
set_option maxHeartbeats 1000000
namespace My
open PySem PyProof.Rows L2 DL
abbrev TI (ns : List Int) : D := .tup (ns.map .int)
abbrev Run := Int × List Int
abbrev runD (r : Run) : D := .tup [.int r.1, TI r.2]
abbrev pileD (w : Nat) (rs : List Run) : D := .tup [.int (w : Int), .tup (rs.map runD)]
def bit (m i : Nat) : Bool := m / 2 ^ i % 2 == 1
def bitsN (n m : Nat) : List Int := ((List.range n).filter fun i => bit m i).map fun i : Nat => (i : Int)
def mk (b : List Int) : Int := (b.map fun x => (2 : Int) ^ x.toNat).sum
theorem and_nat (a b : Nat) : Builtin.bitAnd (a : Int) (b : Int) = ((a &&& b : Nat) : Int) := by
  unfold Builtin.bitAnd
  rw [decide_eq_true (by omega : (0 : Int) ≤ (a : Int)), decide_eq_true (by omega : (0 : Int) ≤ (b : Int))]
  simp
theorem oBand_nat (a b : Nat) : oBand (.int (a : Int)) (.int (b : Int)) = some (.int ((a &&& b : Nat) : Int)) := by
  show some (D.int (Builtin.bitAnd (a : Int) (b : Int))) = _
  rw [and_nat]
theorem oBand_int (a b : Int) : oBand (.int a) (.int b) = some (.int (Builtin.bitAnd a b)) := rfl
theorem shr_nat (m i : Nat) : oShr (.int (m : Int)) (.int (i : Int)) = some (.int ((m / 2 ^ i : Nat) : Int)) := by
  rw [oShr_int _ _ (by omega), Int.toNat_natCast]
  norm_cast
theorem rangeD0 (n : Nat) : rangeD 0 n = (List.range n).map fun i : Nat => .int (i : Int) := by
  unfold rangeD
  simp only [Int.zero_add]
theorem of_mark_eq (m : Nat) : f_law_of_mark [.int (m : Int)] = some (TI (bitsN 12 m)) := by
  have c : runComp (bN 0) (bCmp oEq (eOp oBand (eOp oShr (eV 1) (eV 0)) (eC (.int 1))) (eC (.int 1))) (eV 0) [none, some (.fz (.int (m : Int)))] (rangeD 0 12) = some ((bitsN 12 m).map D.int) := by
    have := runComp_eq (b := bN 0) (c := bCmp oEq (eOp oBand (eOp oShr (eV 1) (eV 0)) (eC (.int 1))) (eC (.int 1))) (f := eV 0) (ρ := [none, some (.fz (.int (m : Int)))]) (fun d => match d with | .int x => bit m x.toNat | _ => false) id (ds := rangeD 0 12) fun d hd => by
      rw [rangeD0] at hd
      obtain ⟨i, _, rfl⟩ := List.mem_map.mp hd
      refine ⟨_, rfl, x_cmp (x_op (x_op (x_v rfl) (x_v rfl) (shr_nat m i)) x_c (oBand_nat _ 1)) x_c ?_, fun _ => rfl⟩
      rw [oEq_int]
      congr 2
      show decide _ = bit m (i : Int).toNat
      rw [Int.toNat_natCast, bit, Nat.and_one_is_mod, Bool.eq_iff_iff, decide_eq_true_eq, beq_iff_eq]
      omega
    rw [this, List.map_id, rangeD0, List.filter_map, bitsN, List.map_map]
    rfl
  have hr : iR1 (aCons (eC (.int 12)) aNil) [some (.fz (.int (m : Int)))] = some (rangeD 0 12) := rfl
  have hl : (rangeD 0 12).length ≤ lim := by decide
  (refine run_ok ?_; simp (config := {decide := true, implicitDefEqProofs := false}) only [u_law_of_mark, sRet, List.map_cons, List.map_nil, List.length_cons, List.length_nil, Nat.reduceAdd, Nat.reduceSub, List.replicate, List.append_nil, eCall, aCons, eL, lComp, hr, capR, fzOf, Option.bind_none, Option.bind_some, List.getElem?_cons_zero, Option.join_some, c, if_true, Option.map_some, aNil, oTuple_l])
theorem bits_small : ∀ k : Nat, k < 64 → bitsN (Builtin.Int.intBits (k : Int)) k = bitsN 12 k ∧ mk (bitsN 12 k) = (k : Int) := by decide
theorem bits_inj : ∀ a : Nat, a < 64 → ∀ b : Nat, b < 64 → bitsN 12 a = bitsN 12 b → a = b := fun a ha b hb h => by
  have h1 := (bits_small a ha).2
  have h2 := (bits_small b hb).2
  rw [h, h2] at h1
  omega
theorem bits_len (n m : Nat) : (bitsN n m).length ≤ n := by
  unfold bitsN
  rw [List.length_map]
  exact Nat.le_trans (List.length_filter_le _ _) (by simp)
theorem bits_mem {n m : Nat} {x : Int} (h : x ∈ bitsN n m) : ∃ i : Nat, x = (i : Int) ∧ i < n := by
  unfold bitsN at h
  obtain ⟨i, hi, rfl⟩ := List.mem_map.mp h
  exact ⟨i, rfl, by simpa using (List.mem_filter.mp hi).1⟩
theorem pow_sum (b : List Int) (hb : ∀ x ∈ b, 0 ≤ x ∧ x < 100) (ρ : Rho) : runComp (bN 0) cTrue (eOp oShl (eC (.int 1)) (eV 0)) (none :: ρ) (b.map D.int) = some ((b.map fun x => (2 : Int) ^ x.toNat).map D.int) := by
  have := runComp_map (b := bN 0) (f := eOp oShl (eC (.int 1)) (eV 0)) (ρ := none :: ρ) (fun d => match d with | .int x => .int (2 ^ x.toNat) | _ => .non) (ds := b.map D.int) fun d hd => by
    obtain ⟨x, hx, rfl⟩ := List.mem_map.mp hd
    have := hb x hx
    refine ⟨_, rfl, x_op x_c (x_v rfl) ?_⟩
    rw [oShl_int 1 x (by omega) (by omega) (by decide), Int.one_mul]
  rw [this, List.map_map, List.map_map]
  rfl
end My
set_option maxRecDepth 100000
set_option maxHeartbeats 1000000
namespace My
open PySem PyProof.Rows L2 DL
def RunsOk (rs : List Run) : Prop := rs.length ≤ 1000 ∧ ∀ r ∈ rs, (∀ x ∈ r.2, 0 ≤ x ∧ x < 100) ∧ r.2.length ≤ 1000 ∧ 0 ≤ r.1 ∧ ∃ t, t < 64 ∧ r.2 = bitsN 12 t
abbrev mrD (r : Run) : D := .tup [.int r.1, .int (mk r.2)]
theorem law_marks_eq (w : Nat) (rs : List Run) (h : RunsOk rs) : f_law_marks [pileD w rs] = some (.lst (rs.map mrD)) := by
  have hl' : rs.length ≤ lim := by have := h.1; show _ ≤ 1000000; omega
  have c : runComp (bTup 2 (bCons (bN 0) (bCons (bN 1) bNil))) cTrue (eTup (aCons (eV 0) (aCons (eCall oSum (aCons (eL (lComp (iSeq (eV 1)) [none] (bN 0) cTrue (eOp oShl (eC (.int 1)) (eV 0)))) aNil)) aNil))) [none, none] (rs.map runD) = some (rs.map mrD) := by
    have hr := h.2
    clear hl' h
    induction rs with
    | nil => rfl
    | cons r rs ih =>
      have ih' := ih fun x hx => hr x (List.mem_cons_of_mem _ hx)
      have hl2 : r.2.length ≤ lim := by have := (hr r List.mem_cons_self).2.1; show _ ≤ 1000000; omega
      have c2 := pow_sum r.2 (hr r List.mem_cons_self).1 []
      have a := oSum_ints (r.2.map fun x => (2 : Int) ^ x.toNat)
      rw [List.map_cons]
      simp (config := {decide := true, implicitDefEqProofs := false}) only [runComp, bTup, List.length_cons, List.length_nil, Nat.reduceAdd, bCons, bN, List.set_cons_zero, bNil, if_true, Option.bind_some, List.set_cons_succ, cTrue, eTup, aCons, eCall, eL, lComp, iSeq, capR, fzOf, List.map_cons, Option.bind_none, List.map_nil, aNil, Option.map_some, ih', eV0, eVs, seqD, List.length_map, hl2, c2, a]
      rfl
  (refine run_ok ?_; simp (config := {decide := true, implicitDefEqProofs := false}) only [u_law_marks, sRet, List.map_cons, List.map_nil, List.length_cons, List.length_nil, Nat.reduceAdd, Nat.reduceSub, List.replicate, List.append_nil, eL, lComp, iSeq, eOp, eV0, eC, Option.bind_some, oIxT, atI_lit, List.getElem?_cons_succ, List.getElem?_cons_zero, seqD, capR, fzOf, Option.bind_none, List.length_map, hl', c, if_true, Option.map_some])
def cM (rs : List Run) (k : Nat) : Int := ((rs.filter fun r => decide (Builtin.bitAnd (mk r.2) (k : Int) = (k : Int))).map (·.1)).sum
theorem cm_comp (rs : List Run) (k : Nat) : runComp (bTup 2 (bCons (bN 0) (bCons (bN 1) bNil))) (bCmp oEq (eOp oBand (eV 1) (eV 2)) (eV 2)) (eV 0) [none, none, some (.fz (.int (k : Int)))] (rs.map mrD)
    = some (((rs.filter fun r => decide (Builtin.bitAnd (mk r.2) (k : Int) = (k : Int))).map (·.1)).map D.int) := by
  induction rs with
  | nil => rfl
  | cons r rs ih =>
    rw [List.map_cons]
    by_cases hb : Builtin.bitAnd (mk r.2) (k : Int) = (k : Int)
    · simp (config := {decide := true, implicitDefEqProofs := false}) only [runComp, bTup, List.length_cons, List.length_nil, Nat.reduceAdd, bCons, bN, List.set_cons_zero, bNil, if_true, Option.bind_some, List.set_cons_succ, bCmp, eOp, ih, Option.map_some, eVs, eV0, oBand_int, hb, oEq_int, decide_true, isB, List.filter_cons, List.map_cons]
    · simp (config := {decide := true, implicitDefEqProofs := false}) only [runComp, bTup, List.length_cons, List.length_nil, Nat.reduceAdd, bCons, bN, List.set_cons_zero, bNil, if_true, Option.bind_some, List.set_cons_succ, bCmp, eOp, ih, Option.map_some, eVs, eV0, oBand_int, oEq_int, hb, decide_false, isB, if_false, List.filter_cons, Bool.false_eq_true]
theorem law_counts_loop (x0 : Option B) (rs : List Run) (h : RunsOk rs) : ∀ (n k : Nat) (acc : List D) (b : Option B), acc.length + n ≤ 1000 → ∃ b',
    runFor (bN 3) lb_law_counts_1 (rangeD (k : Int) n) [x0, some (.fz (.lst (rs.map mrD))), some (.ow acc), b] = some (.nx, [x0, some (.fz (.lst (rs.map mrD))), some (.ow (acc ++ (List.range' k n).map fun i : Nat => .int (cM rs i))), b'])
  | 0, k, acc, b, _ => ⟨b, by simp [rangeD, runFor]⟩
  | n + 1, k, acc, b, hn => by
    have hl' : rs.length ≤ lim := by have := h.1; show _ ≤ 1000000; omega
    have hl2 : acc.length < lim := by show _ < 1000000; omega
    obtain ⟨b', ih⟩ := law_counts_loop x0 rs h n (k + 1) (acc ++ [.int (cM rs k)]) (some (.fz (.int (k : Int)))) (by simp; omega)
    have c := cm_comp rs k
    have a : oSum [.lst (((rs.filter fun r => decide (Builtin.bitAnd (mk r.2) (k : Int) = (k : Int))).map (·.1)).map D.int)] = some (.int (cM rs k)) := oSum_ints _
    have body : lb_law_counts_1 [x0, some (.fz (.lst (rs.map mrD))), some (.ow acc), some (.fz (.int (k : Int)))] = some (.nx, [x0, some (.fz (.lst (rs.map mrD))), some (.ow (acc ++ [.int (cM rs k)])), some (.fz (.int (k : Int)))]) := by
      refine x_append rfl ?_ hl2
      simp (config := {decide := true, implicitDefEqProofs := false}) only [eCall, aCons, eL, lComp, iSeq, eVs, eV0, Option.bind_some, seqD, capR, fzOf, List.map_cons, Option.bind_none, List.getElem?_cons_succ, List.getElem?_cons_zero, Option.join_some, List.map_nil, List.length_map, hl', c, if_true, Option.map_some, aNil, a]
    refine ⟨b', ?_⟩
    rw [rangeD_succ, runFor_nx (b := bN 3) rfl body, show (k : Int) + 1 = ((k + 1 : Nat) : Int) by omega, ih, List.range'_succ]
    simp
theorem law_counts_eq (w : Nat) (rs : List Run) (h : RunsOk rs) (hw : w ≤ 6) : f_law_counts [pileD w rs] = some (.lst ((List.range (2 ^ w)).map fun i : Nat => .int (cM rs i))) := by
  have h2 : 2 ^ w ≤ 64 := Nat.le_trans (Nat.pow_le_pow_right (by decide) hw) (by decide)
  obtain ⟨b', e⟩ := law_counts_loop (some (.fz (pileD w rs))) rs h (2 ^ w) 0 [] none (by simp; omega)
  have m := law_marks_eq w rs h
  have hr : iR1 (aCons (eOp oShl (eC (.int 1)) (eOp oIx (eV 0) (eC (.int 0)))) aNil) [some (.fz (pileD w rs)), some (.fz (.lst (rs.map mrD))), some (.ow []), none] = some (rangeD ((0 : Nat) : Int) (2 ^ w)) := by
    have hs : oShl (.int 1) (.int (w : Int)) = some (.int ((2 ^ w : Nat) : Int)) := by
      rw [oShl_int 1 (w : Int) (by omega) (by omega) (by decide), Int.toNat_natCast, Int.one_mul]
      norm_cast
    have ha : aCons (eOp oShl (eC (.int 1)) (eOp oIx (eV 0) (eC (.int 0)))) aNil [some (.fz (pileD w rs)), some (.fz (.lst (rs.map mrD))), some (.ow []), none] = some [.int ((2 ^ w : Nat) : Int)] := x_cons (x_op x_c (x_op (x_v rfl) x_c rfl) hs) x_nil
    have h3 : (0 : Int) ≤ ((2 ^ w : Nat) : Int) := Int.natCast_nonneg _
    have h4 : ((2 ^ w : Nat) : Int) ≤ 64 := by exact_mod_cast h2
    rw [iR1_int _ _ _ ha (Int.le_trans (by decide) h3) (Int.lt_of_le_of_lt h4 (by decide)), Int.toNat_natCast]
    rfl
  have hlst : lLst aNil [some (.fz (pileD w rs)), some (.fz (.lst (rs.map mrD))), none, none] = some [] := rfl
  rw [List.nil_append, ← List.range_eq_range'] at e
  refine run_rt (x_seq (x_set (x_cald (x_cons (x_v rfl) x_nil) rfl m)) (x_seq (x_own hlst) (x_seq (x_for hr e) (x_frz rfl (x_ret (x_v rfl))))))
end My
set_option maxRecDepth 100000
set_option maxHeartbeats 1000000
namespace My
open PySem PyProof.Rows L2 DL
theorem law_cell_ok (ns : List Int) (k : Nat) : ∃ c : Int, f_law_cell [.lst (ns.map .int), .int (k : Int)] = some (.int c) := by
  by_cases h : (k : Int) < (ns.length : Int)
  · have hk : k < ns.length := by omega
    have hi : atI (ns.map D.int) (k : Int) = some (.int ns[k]) := by rw [atI_nat', List.getElem?_map, List.getElem?_eq_getElem hk]; rfl
    refine ⟨ns[k], ?_⟩
    (refine run_ok ?_; simp (config := {decide := true, implicitDefEqProofs := false}) only [u_law_cell, sSeq, sIf, bCmp, eOp, List.map_cons, List.map_nil, List.length_cons, List.length_nil, Nat.reduceAdd, Nat.reduceSub, List.replicate, List.append_nil, eVs, eV0, eCall, aCons, aNil, Option.map_some, Option.bind_some, oLenL, List.length_map, oLt_int, h, decide_true, isB, sRet, oIxL, hi, sNil, if_true, eC])
  · refine ⟨0, ?_⟩
    (refine run_ok ?_; simp (config := {decide := true, implicitDefEqProofs := false}) only [u_law_cell, sSeq, sIf, bCmp, eOp, List.map_cons, List.map_nil, List.length_cons, List.length_nil, Nat.reduceAdd, Nat.reduceSub, List.replicate, List.append_nil, eVs, eV0, eCall, aCons, aNil, Option.map_some, Option.bind_some, oLenL, List.length_map, oLt_int, h, decide_false, isB, sRet, oIxL, sNil, if_false, eC])
theorem law_mixed_ok (ns : List Int) (hl : ns.length ≤ 63) (k : Int) (h0 : 0 ≤ k) (h1 : k ≤ 1000000) : ∃ m, f_law_mixed [.lst (ns.map .int), .int k] = some (.int m) ∧ 0 ≤ m ∧ m < 2147483563 := by
  have hk7 : oTimes (.int k) (.int 7919) = some (.int (k * 7919)) := oTimes_int _ _ ⟨by decide, by decide⟩
  have h7k : oTimes (.int 7) (.int k) = some (.int (7 * k)) := oTimes_intL _ _ ⟨by decide, by decide⟩
  have h2k : oTimes (.int 2) (.int k) = some (.int (2 * k)) := oTimes_intL _ _ ⟨by decide, by decide⟩
  have h2kk : oTimes (.int (2 * k)) (.int k) = some (.int (2 * k * k)) := oTimes_int _ _ ⟨by omega, by omega⟩
  have hkk : 0 ≤ 2 * k * k ∧ 2 * k * k ≤ 2000000000000 := by
    have a : 0 ≤ k * k := Int.mul_nonneg h0 h0
    have b : k * k ≤ 1000000 * 1000000 := Int.mul_le_mul h1 h1 h0 (by decide)
    rw [Int.mul_assoc]; omega
  have hc : ∀ x : Int, oTimes (.int x) (.int (48271 + 2 * k * k)) = some (.int (x * (48271 + 2 * k * k))) := fun x => oTimes_int _ _ ⟨by omega, by omega⟩
  have hx : ∀ x : Int, oTimes (.int (x % 2147483629)) (.int (x % 2147483629)) = some (.int ((x % 2147483629) * (x % 2147483629))) := fun x =>
    oTimes_int _ _ ⟨by have := Int.emod_nonneg x (show (2147483629 : Int) ≠ 0 by decide); omega, by have := Int.emod_lt_of_pos x (show (0 : Int) < 2147483629 by decide); omega⟩
  have hy : ∀ x : Int, oTimes (.int x) (.int (69621 + k)) = some (.int (x * (69621 + k))) := fun x => oTimes_int _ _ ⟨by omega, by omega⟩
  have fin : ∀ x : Int, 0 ≤ x % 2147483563 ∧ x % 2147483563 < 2147483563 := fun x => ⟨Int.emod_nonneg x (by decide), Int.emod_lt_of_pos x (by decide)⟩
  by_cases hn : 0 < ns.length
  · obtain ⟨j, hj, hm⟩ := mod_nat (x := k) hn
    have hn' : (0 : Int) < (ns.length : Int) := by omega
    have hi : atI (ns.map D.int) (j : Int) = some (.int ns[j]) := by rw [atI_nat', List.getElem?_map, List.getElem?_eq_getElem hj]; rfl
    have hd : oDiv (.int k) (.int (ns.length : Int)) = some (.int (k / (ns.length : Int))) := oDiv_int _ _ hn' (by omega)
    have h11 : ∀ x : Int, oTimes (.int 11) (.int x) = some (.int (11 * x)) := fun x => oTimes_intL _ _ ⟨by decide, by decide⟩
    simp (config := {decide := true, implicitDefEqProofs := false}) only [f_law_mixed, runFn, u_law_mixed, sSeq, sSet, List.map_cons, List.map_nil, List.length_cons, List.length_nil, Nat.reduceAdd, Nat.reduceSub, List.replicate, List.cons_append, List.nil_append, List.set_cons_succ, List.set_cons_zero, eOp, eC, eVs, eV0, Option.bind_some, h7k, oPlus_int, Option.map_some, sIf, bCmp, eCall, aCons, aNil, sNil, sRet, oLenL, List.length_map, oGt_int, hn', decide_true, isB, hm, oIxL, hi, Int.reduceLT, oMod_int, hd, h11, if_true, h2k, h2kk, hc, hk7, hx, hy]
    exact ⟨_, rfl, fin _⟩
  · have hn' : ¬ (0 : Int) < (ns.length : Int) := by omega
    simp (config := {decide := true, implicitDefEqProofs := false}) only [f_law_mixed, runFn, u_law_mixed, sSeq, sSet, List.map_cons, List.map_nil, List.length_cons, List.length_nil, Nat.reduceAdd, Nat.reduceSub, List.replicate, List.cons_append, List.nil_append, List.set_cons_succ, List.set_cons_zero, eOp, eC, eVs, eV0, Option.bind_some, h7k, oPlus_int, Option.map_some, sIf, bCmp, eCall, aCons, aNil, sNil, sRet, oLenL, List.length_map, oGt_int, hn', decide_false, isB, if_false, h2k, h2kk, hc, hk7, Int.reduceLT, oMod_int, hx, hy]
    exact ⟨_, rfl, fin _⟩
def runOf (n : Int) (w : Nat) (most : Int) : Run := (1 + n / 4096 % most, bitsN 12 (n % 2 ^ w).toNat)
theorem shl_pow (w : Nat) (hw : w ≤ 1000) : oShl (.int 1) (.int (w : Int)) = some (.int (2 ^ w)) := by
  rw [oShl_int 1 (w : Int) (by omega) (by omega) (by decide), Int.toNat_natCast, Int.one_mul]
theorem law_run_eq (n : Int) (w : Nat) (most : Int) (hw : w ≤ 6) (hm : 0 < most) : f_law_run [.int n, .int (w : Int), .int most] = some (runD (runOf n w most)) := by
  have hp := shl_pow w (by omega)
  have hpos : (0 : Int) < 2 ^ w := Int.pow_pos (by decide)
  have ls := of_mark_eq (n % 2 ^ w).toNat
  rw [Int.toNat_of_nonneg (Int.emod_nonneg n (by omega))] at ls
  (refine run_ok ?_; simp (config := {decide := true, implicitDefEqProofs := false}) only [u_law_run, sRet, List.map_cons, List.map_nil, List.length_cons, List.length_nil, Nat.reduceAdd, Nat.reduceSub, List.replicate, List.append_nil, eTup, aCons, eOp, eC, eV0, Option.bind_some, Int.reduceLT, oDiv_int, eVs, hm, oMod_int, oPlus_int, eCall, hp, hpos, aNil, Option.map_some, callD, ls, if_true])
  rfl
def RunOk (r : Run) : Prop := (∀ x ∈ r.2, 0 ≤ x ∧ x < 100) ∧ r.2.length ≤ 1000 ∧ 0 ≤ r.1 ∧ ∃ t, t < 64 ∧ r.2 = bitsN 12 t
theorem runOf_ok (n : Int) (w : Nat) (most : Int) (hw : w ≤ 6) (hm : 0 < most) : RunOk (runOf n w most) := by
  have hp : (2 : Int) ^ w ≤ 64 := by
    have : 2 ^ w ≤ 64 := Nat.le_trans (Nat.pow_le_pow_right (by decide) hw) (by decide)
    exact_mod_cast this
  have hp0 : (0 : Int) < 2 ^ w := Int.pow_pos (by decide)
  have h1 := Int.emod_nonneg (n / 4096) (by omega : most ≠ 0)
  have h2 := Int.emod_lt_of_pos n hp0
  have h3 := Int.emod_nonneg n (by omega : (2 : Int) ^ w ≠ 0)
  refine ⟨fun x hx => ?_, Nat.le_trans (bits_len 12 _) (by decide), by show 0 ≤ 1 + n / 4096 % most; omega, _, ?_, rfl⟩
  case refine_2 => omega
  obtain ⟨i, rfl, hi⟩ := bits_mem hx
  omega
theorem law_pile_loop1 (x0 x2 : Option B) (w : Nat) (most : Int) (hw : w ≤ 6) (hm : 0 < most) (t : Rho) : ∀ (cs : List Int) (acc : List Run) (b5 : Option B), acc.length + cs.length ≤ 1000 → ∃ b5',
    runFor (bN 5) lb_law_pile_1 (cs.map D.int) ([x0, some (.fz (.int (w : Int))), x2, some (.fz (.int most)), some (.ow (acc.map runD)), b5] ++ t) =
      some (.nx, [x0, some (.fz (.int (w : Int))), x2, some (.fz (.int most)), some (.ow ((acc ++ cs.map fun n => runOf n w most).map runD)), b5'] ++ t)
  | [], acc, b5, _ => ⟨b5, by simp [runFor]⟩
  | c :: cs, acc, b5, h => by
    have lr := law_run_eq c w most hw hm
    have hl : acc.length < lim := by simp at h; show _ < 1000000; omega
    obtain ⟨b5', ih⟩ := law_pile_loop1 x0 x2 w most hw hm t cs (acc ++ [runOf c w most]) (some (.fz (.int c))) (by simp at h ⊢; omega)
    have body : lb_law_pile_1 ([x0, some (.fz (.int (w : Int))), x2, some (.fz (.int most)), some (.ow (acc.map runD)), some (.fz (.int c))] ++ t) = some (.nx, [x0, some (.fz (.int (w : Int))), x2, some (.fz (.int most)), some (.ow ((acc ++ [runOf c w most]).map runD)), some (.fz (.int c))] ++ t) := by
      simp (config := {decide := true, implicitDefEqProofs := false}) only [lb_law_pile_1, sApp, List.cons_append, List.nil_append, owAts, owAt0, eCall, aCons, eVs, eV0, aNil, Option.map_some, Option.bind_some, callD, List.append_nil, List.length_cons, List.length_nil, Nat.reduceAdd, lr, if_true, List.set_cons_succ, List.set_cons_zero, List.length_map, hl, List.map_append, List.map_cons, List.map_nil]
    refine ⟨b5', ?_⟩
    rw [List.map_cons, runFor_nx (b := bN 5) rfl body, ih]
    simp
theorem law_pile_loop2 (ns : List Int) (hns : ns.length ≤ 63) (x2 : Option B) (w : Nat) (most base : Int) (hw : w ≤ 6) (hm : 0 < most) (b5 : Option B) : ∀ (n : Nat) (k : Int) (acc : List Run) (b7 b8 : Option B), 0 ≤ k → k + n ≤ 1000 → acc.length + n ≤ 1000 → (∀ r ∈ acc, RunOk r) →
    ∃ (rs : List Run) (b7' b8' : Option B), runFor (bN 7) lb_law_pile_2 (rangeD k n) [some (.fz (.lst (ns.map .int))), some (.fz (.int (w : Int))), x2, some (.fz (.int most)), some (.ow (acc.map runD)), b5, some (.fz (.int base)), b7, b8] =
      some (.nx, [some (.fz (.lst (ns.map .int))), some (.fz (.int (w : Int))), x2, some (.fz (.int most)), some (.ow (rs.map runD)), b5, some (.fz (.int base)), b7', b8']) ∧ rs.length = acc.length + n ∧ ∀ r ∈ rs, RunOk r
  | 0, k, acc, b7, b8, _, _, _, ha => ⟨acc, b7, b8, by simp [rangeD, runFor], by simp, ha⟩
  | n + 1, k, acc, b7, b8, h0, h1, h2, ha => by
    obtain ⟨m1, e1, p1, q1⟩ := law_mixed_ok ns hns (10 + k) (by omega) (by omega)
    have hl : acc.length < lim := by show _ < 1000000; omega
    have body : ∃ N b8', lb_law_pile_2 [some (.fz (.lst (ns.map .int))), some (.fz (.int (w : Int))), x2, some (.fz (.int most)), some (.ow (acc.map runD)), b5, some (.fz (.int base)), some (.fz (.int k)), b8] =
        some (.nx, [some (.fz (.lst (ns.map .int))), some (.fz (.int (w : Int))), x2, some (.fz (.int most)), some (.ow ((acc ++ [runOf N w most]).map runD)), b5, some (.fz (.int base)), some (.fz (.int k)), b8']) := by
      have lr := fun n => law_run_eq n w most hw hm
      have hor : ∀ a b : Int, oBor (.int a) (.int b) = some (.int (Builtin.bitOr a b)) := fun _ _ => rfl
      have ht : ∀ x : Int, oTimes (.int x) (.int 4096) = some (.int (x * 4096)) := fun x => oTimes_int _ _ ⟨by decide, by decide⟩
      by_cases c2 : m1 % 3 = 0
      · simp (config := {decide := true, implicitDefEqProofs := false}) only [lb_law_pile_2, sSeq, sSet, List.set_cons_succ, List.set_cons_zero, eCall, aCons, eV0, eOp, eC, eVs, Option.bind_some, oPlus_int, aNil, Option.map_some, callD, List.append_nil, List.length_cons, List.length_nil, Nat.reduceAdd, e1, if_true, sIf, bCmp, sNil, sApp, Int.reduceLT, oMod_int, c2, oEq_int, decide_true, isB, oDiv_int, ht, hor, owAts, owAt0, lr, List.length_map, hl, List.map_append, List.map_cons, List.map_nil]
        exact ⟨_, _, rfl⟩
      · simp (config := {decide := true, implicitDefEqProofs := false}) only [lb_law_pile_2, sSeq, sSet, List.set_cons_succ, List.set_cons_zero, eCall, aCons, eV0, eOp, eC, eVs, Option.bind_some, oPlus_int, aNil, Option.map_some, callD, List.append_nil, List.length_cons, List.length_nil, Nat.reduceAdd, e1, if_true, sIf, bCmp, sNil, sApp, Int.reduceLT, oMod_int, oEq_int, c2, decide_false, isB, oDiv_int, Int.reducePow, Int.reduceNeg, and_self, oTimes_int, if_false, owAts, owAt0, lr, List.length_map, hl, List.map_append, List.map_cons, List.map_nil]
        exact ⟨_, _, rfl⟩
    obtain ⟨N, b8', eb⟩ := body
    obtain ⟨rs, c7, c8, er, el, ho⟩ := law_pile_loop2 ns hns x2 w most base hw hm b5 n (k + 1) (acc ++ [runOf N w most]) (some (.fz (.int k))) b8' (by omega) (by omega) (by simp; omega) (fun r hr => by
      rcases List.mem_append.mp hr with hr | hr
      · exact ha r hr
      · rw [List.mem_singleton.mp hr]; exact runOf_ok N w most hw hm)
    refine ⟨rs, c7, c8, ?_, by rw [el]; simp; omega, ho⟩
    rw [rangeD_succ, runFor_nx (b := bN 7) rfl eb, er]
theorem law_pile_ok (ns : List Int) (hl : ns.length ≤ 63) (w : Nat) (hw : w ≤ 6) (mr : Nat) (hmr : mr ≤ 61) : ∃ rs : List Run, f_law_pile [.lst (ns.map .int), .int (w : Int), .int (mr : Int)] = some (pileD w rs) ∧ RunsOk rs := by
  obtain ⟨m0, e0, p0, q0⟩ := law_mixed_ok ns hl 0 (by decide) (by decide)
  obtain ⟨m1, e1, p1, q1⟩ := law_mixed_ok ns hl 1 (by decide) (by decide)
  obtain ⟨m2, e2, p2, q2⟩ := law_mixed_ok ns hl 2 (by decide) (by decide)
  obtain ⟨c0, ec⟩ := law_cell_ok ns 0
  rw [show ((0 : Nat) : Int) = 0 from rfl] at ec
  obtain ⟨most, emost, hmost⟩ : ∃ most : Int, atI [D.int 1, D.int 3, D.int 9, D.int 1000000000000] (m0 % 4) = some (.int most) ∧ 0 < most := by
    have : m0 % 4 = 0 ∨ m0 % 4 = 1 ∨ m0 % 4 = 2 ∨ m0 % 4 = 3 := by omega
    rcases this with e | e | e | e <;> rw [e]
    · exact ⟨1, rfl, by decide⟩
    · exact ⟨3, rfl, by decide⟩
    · exact ⟨9, rfl, by decide⟩
    · exact ⟨1000000000000, rfl, by decide⟩
  have hpw : oPow (.int 10) (.int 12) = some (.int 1000000000000) := by
    rw [oPow_int 10 12 (by decide) (by decide) (by decide)]; rfl
  by_cases hc : c0 % 2 = 0
  · have sl : ∃ cs : List Int, oSl (.lst (ns.map D.int)) (some 2) (some (2 + (mr : Int))) = some (.lst (cs.map D.int)) ∧ cs.length ≤ 63 := by
      refine ⟨(ns.drop (min 2 ns.length)).take (min (2 + mr) ns.length - min 2 ns.length), ?_, ?_⟩
      · show some (D.lst (DL.cutD (ns.map D.int) (some ((2 : Nat) : Int)) (some (2 + (mr : Int))))) = _
        rw [show (2 : Int) + (mr : Int) = ((2 + mr : Nat) : Int) by omega]
        unfold DL.cutD
        rw [HT.sIx_nat, HT.sIx_nat, List.length_map, List.map_take, List.map_drop]
      · rw [List.length_take, List.length_drop]; omega
    obtain ⟨cs, sl, hcs⟩ := sl
    obtain ⟨b5, e⟩ := law_pile_loop1 (some (.fz (.lst (ns.map .int)))) (some (.fz (.int (mr : Int)))) w most hw hmost [none, none, none] cs [] none (by simp; omega)
    refine ⟨cs.map fun n => runOf n w most, ?_, ?_, ?_⟩
    · simp only [List.map_nil, List.nil_append, List.cons_append] at e
      (refine run_ok ?_; simp (config := {decide := true, implicitDefEqProofs := false}) only [u_law_pile, sSeq, sSet, List.map_cons, List.map_nil, List.length_cons, List.length_nil, Nat.reduceAdd, Nat.reduceSub, List.replicate, List.cons_append, List.nil_append, List.set_cons_succ, List.set_cons_zero, eOp, eL, lLst, aCons, eC, Option.bind_some, hpw, aNil, Option.map_some, if_true, eCall, eV0, callD, List.append_nil, e0, Int.reduceLT, oMod_int, oIxL, emost, sOwn, sIf, bCmp, sFor, iSeq, eSl, oAt, sFrz, sRet, eTup, ec, hc, oEq_int, decide_true, isB, eVs, oPlus_int, sl, seqD, e, frzs, frz0, oTuple_l])
    · rw [List.length_map]; omega
    · intro r hr
      obtain ⟨n, _, rfl⟩ := List.mem_map.mp hr
      exact runOf_ok n w most hw hmost
  · obtain ⟨tn, htn, etn⟩ := mod_nat (x := m2) (n := mr + 1) (by omega)
    rw [show ((mr + 1 : Nat) : Int) = (mr : Int) + 1 by omega] at etn
    have hpos : (0 : Int) < 2 ^ w := Int.pow_pos (by decide)
    have hp := shl_pow w (by omega)
    obtain ⟨rs, b7, b8, e, el, ho⟩ := law_pile_loop2 ns hl (some (.fz (.int (mr : Int)))) w most (m1 % 2 ^ w) hw hmost none tn 0 [] none none (by decide) (by omega) (by simp; omega) (by simp)
    have hr : iR1 (aCons (eOp oMod (eCall (callD 2 [] f_law_mixed) (aCons (eV 0) (aCons (eC (.int 2)) aNil))) (eOp oPlus (eV 2) (eC (.int 1)))) aNil) [some (.fz (.lst (ns.map .int))), some (.fz (.int (w : Int))), some (.fz (.int (mr : Int))), some (.fz (.int most)), some (.ow []), none, some (.fz (.int (m1 % 2 ^ w))), none, none] = some (rangeD 0 tn) := by
      have ha : aCons (eOp oMod (eCall (callD 2 [] f_law_mixed) (aCons (eV 0) (aCons (eC (.int 2)) aNil))) (eOp oPlus (eV 2) (eC (.int 1)))) aNil [some (.fz (.lst (ns.map .int))), some (.fz (.int (w : Int))), some (.fz (.int (mr : Int))), some (.fz (.int most)), some (.ow []), none, some (.fz (.int (m1 % 2 ^ w))), none, none] = some [.int (tn : Int)] :=
        x_cons (x_op (x_cald (x_cons (x_v rfl) (x_cons x_c x_nil)) rfl e2) (x_op (x_v rfl) x_c rfl) etn) x_nil
      rw [iR1_int _ _ _ ha (by omega) (by omega), Int.toNat_natCast]
    refine ⟨rs, ?_, by rw [el]; simp; omega, ho⟩
    simp only [List.map_nil] at e
    (refine run_ok ?_; simp (config := {decide := true, implicitDefEqProofs := false}) only [u_law_pile, sSeq, sSet, List.map_cons, List.map_nil, List.length_cons, List.length_nil, Nat.reduceAdd, Nat.reduceSub, List.replicate, List.cons_append, List.nil_append, List.set_cons_succ, List.set_cons_zero, eOp, eL, lLst, aCons, eC, Option.bind_some, hpw, aNil, Option.map_some, if_true, eCall, eV0, callD, List.append_nil, e0, Int.reduceLT, oMod_int, oIxL, emost, sOwn, sIf, bCmp, sFor, iSeq, eSl, oAt, sFrz, sRet, eTup, ec, oEq_int, hc, decide_false, isB, eVs, oPlus_int, e1, hp, hpos, hr, e, if_false, frzs, frz0, oTuple_l])
theorem law_least_ok (ns : List Int) (cs : List Int) (hc : 0 < cs.length) (hc2 : cs.length ≤ 1000) : ∃ L : Int, f_law_least [.lst (ns.map .int), .lst (cs.map .int)] = some (.int L) := by
  obtain ⟨c1, ec⟩ := law_cell_ok ns 1
  rw [show ((1 : Nat) : Int) = 1 from rfl] at ec
  have hpw : oPow (.int 10) (.int 15) = some (.int 1000000000000000) := by
    rw [oPow_int 10 15 (by decide) (by decide) (by decide)]; rfl
  have r5 : c1 % 5 = 0 ∨ c1 % 5 = 1 ∨ c1 % 5 = 2 ∨ c1 % 5 = 3 ∨ c1 % 5 = 4 := by omega
  obtain ⟨j, hj, hm⟩ := mod_nat (x := c1 / 5) hc
  have hi : atI (cs.map D.int) (j : Int) = some (.int cs[j]) := by rw [atI_nat', List.getElem?_map, List.getElem?_eq_getElem hj]; rfl
  have hmax : ∀ a b : Int, oMax [.int a, .int b] = some (.int (if b > a then b else a)) := fun _ _ => rfl
  rcases r5 with e | e | e | e | e
  · simp (config := {decide := true, implicitDefEqProofs := false}) only [f_law_least, runFn, u_law_least, sSeq, sSet, List.map_cons, List.map_nil, List.length_cons, List.length_nil, Nat.reduceAdd, Nat.reduceSub, List.replicate, List.cons_append, List.nil_append, List.set_cons_succ, List.set_cons_zero, eCall, aCons, eV0, eC, aNil, Option.map_some, Option.bind_some, callD, List.append_nil, ec, if_true, sIf, bCmp, eOp, sRet, eL, lLst, hpw, sNil, eUn, oNeg, Int.reduceNeg, eVs, Int.reduceLT, oMod_int, e, oLt_int, decide_true, isB, oDiv_int, oIxL, atI_lit, List.getElem?_cons_zero, oPlus_int]
    exact ⟨_, rfl⟩
  · simp (config := {decide := true, implicitDefEqProofs := false}) only [f_law_least, runFn, u_law_least, sSeq, sSet, List.map_cons, List.map_nil, List.length_cons, List.length_nil, Nat.reduceAdd, Nat.reduceSub, List.replicate, List.cons_append, List.nil_append, List.set_cons_succ, List.set_cons_zero, eCall, aCons, eV0, eC, aNil, Option.map_some, Option.bind_some, callD, List.append_nil, ec, if_true, sIf, bCmp, eOp, sRet, eL, lLst, hpw, sNil, eUn, oNeg, Int.reduceNeg, eVs, Int.reduceLT, oMod_int, e, oLt_int, decide_true, isB, oDiv_int, oIxL, atI_lit, List.getElem?_cons_succ, List.getElem?_cons_zero, oPlus_int]
    exact ⟨_, rfl⟩
  · simp (config := {decide := true, implicitDefEqProofs := false}) only [f_law_least, runFn, u_law_least, sSeq, sSet, List.map_cons, List.map_nil, List.length_cons, List.length_nil, Nat.reduceAdd, Nat.reduceSub, List.replicate, List.cons_append, List.nil_append, List.set_cons_succ, List.set_cons_zero, eCall, aCons, eV0, eC, aNil, Option.map_some, Option.bind_some, callD, List.append_nil, ec, if_true, sIf, bCmp, eOp, sRet, eL, lLst, hpw, sNil, eUn, oNeg, Int.reduceNeg, eVs, Int.reduceLT, oMod_int, e, oLt_int, decide_false, isB, oDiv_int, oIxL, atI_lit, List.getElem?_cons_succ, if_false, oLenL, List.length_map, hm, hi, oSub_int, Int.reduceSub, List.getElem?_cons_zero, oPlus_int, hmax]
    exact ⟨_, rfl⟩
  · simp (config := {decide := true, implicitDefEqProofs := false}) only [f_law_least, runFn, u_law_least, sSeq, sSet, List.map_cons, List.map_nil, List.length_cons, List.length_nil, Nat.reduceAdd, Nat.reduceSub, List.replicate, List.cons_append, List.nil_append, List.set_cons_succ, List.set_cons_zero, eCall, aCons, eV0, eC, aNil, Option.map_some, Option.bind_some, callD, List.append_nil, ec, if_true, sIf, bCmp, eOp, sRet, eL, lLst, hpw, sNil, eUn, oNeg, Int.reduceNeg, eVs, Int.reduceLT, oMod_int, e, oLt_int, decide_false, isB, oDiv_int, oIxL, atI_lit, List.getElem?_cons_succ, if_false, oLenL, List.length_map, hm, hi, oSub_int, Int.reduceSub, List.getElem?_cons_zero, oPlus_int, hmax]
    exact ⟨_, rfl⟩
  · simp (config := {decide := true, implicitDefEqProofs := false}) only [f_law_least, runFn, u_law_least, sSeq, sSet, List.map_cons, List.map_nil, List.length_cons, List.length_nil, Nat.reduceAdd, Nat.reduceSub, List.replicate, List.cons_append, List.nil_append, List.set_cons_succ, List.set_cons_zero, eCall, aCons, eV0, eC, aNil, Option.map_some, Option.bind_some, callD, List.append_nil, ec, if_true, sIf, bCmp, eOp, sRet, eL, lLst, hpw, sNil, eUn, oNeg, Int.reduceNeg, eVs, Int.reduceLT, oMod_int, e, oLt_int, decide_false, isB, oDiv_int, oIxL, atI_lit, List.getElem?_cons_succ, if_false, oLenL, List.length_map, hm, hi, oSub_int, Int.reduceSub, List.getElem?_cons_zero, oPlus_int, hmax]
    exact ⟨_, rfl⟩
end My
set_option maxRecDepth 100000
set_option maxHeartbeats 1000000
namespace My
open PySem PyProof.Rows L2 DL
def insM (lt : Nat → Nat → Bool) (x : Nat) : List Nat → List Nat
  | [] => [x]
  | y :: r => if lt y x = true then y :: insM lt x r else x :: y :: r
def sortM (lt : Nat → Nat → Bool) : List Nat → List Nat
  | [] => []
  | x :: r => insM lt x (sortM lt r)
theorem insM_perm (lt : Nat → Nat → Bool) (x : Nat) : ∀ l, (insM lt x l).Perm (x :: l)
  | [] => .refl _
  | y :: r => by
    unfold insM
    split
    · exact ((insM_perm lt x r).cons y).trans (.swap x y r)
    · exact .refl _
theorem sortM_perm (lt : Nat → Nat → Bool) : ∀ l, (sortM lt l).Perm l
  | [] => .refl _
  | x :: r => (insM_perm lt x _).trans ((sortM_perm lt r).cons x)
theorem insM_map (f : Nat → D × D) (x : Nat) : ∀ l, insT (f x) (l.map f) = (insM (fun a b => ltT (f a).1 (f b).1) x l).map f
  | [] => rfl
  | y :: r => by
    rw [List.map_cons]
    unfold insT insM
    by_cases h : ltT (f y).1 (f x).1 = true
    · rw [if_pos h, if_pos h, insM_map f x r, List.map_cons]
    · rw [if_neg h, if_neg h, List.map_cons, List.map_cons]
theorem sortM_map (f : Nat → D × D) : ∀ l, sortT (l.map f) = (sortM (fun a b => ltT (f a).1 (f b).1) l).map f
  | [] => rfl
  | x :: r => by
    rw [List.map_cons]
    unfold sortT sortM
    rw [sortM_map f r, insM_map]
theorem insM_congr {l1 l2 : Nat → Nat → Bool} (x : Nat) : ∀ l, (∀ a ∈ l, l1 a x = l2 a x) → insM l1 x l = insM l2 x l
  | [], _ => rfl
  | y :: r, h => by
    unfold insM
    rw [h y List.mem_cons_self, insM_congr x r fun a ha => h a (List.mem_cons_of_mem _ ha)]
theorem sortM_congr {l1 l2 : Nat → Nat → Bool} : ∀ l, (∀ a ∈ l, ∀ b ∈ l, l1 a b = l2 a b) → sortM l1 l = sortM l2 l
  | [], _ => rfl
  | x :: r, h => by
    unfold sortM
    rw [sortM_congr r fun a ha b hb => h a (List.mem_cons_of_mem _ ha) b (List.mem_cons_of_mem _ hb)]
    exact insM_congr x _ fun a ha => h a (List.mem_cons_of_mem _ ((sortM_perm l2 r).mem_iff.mp ha)) x List.mem_cons_self
def ordK (k : Nat) : D := .tup [.int ((bitsN 12 k).length : Int), TI (bitsN 12 k)]
def ltO (a b : Nat) : Bool := ltT (ordK a) (ordK b)
theorem kDL_ints : ∀ ns : List Int, kDL (ns.map D.int) = true
  | [] => by simp [kDL]
  | n :: ns => by simp only [List.map_cons, kDL, kD, kDL_ints ns, Bool.and_true]
theorem shL_ints : ∀ ns ms : List Int, shL (ns.map D.int) (ms.map D.int) = true
  | [], ms => by simp [shL]
  | n :: ns, [] => by simp [shL]
  | n :: ns, m :: ms => by simp only [List.map_cons, shL, shD, shL_ints ns ms, Bool.and_true]
theorem depL_ints : ∀ ns : List Int, depL (ns.map D.int) = 0
  | [] => by simp [depL]
  | n :: ns => by simp only [List.map_cons, depL, depD, depL_ints ns]; rfl
theorem kD_ord (k : Nat) : kD (ordK k) = true := by simp only [ordK, TI, kD, kDL, kDL_ints, Bool.and_true]
theorem sh_ord (a b : Nat) : shD (ordK a) (ordK b) = true := by simp only [ordK, TI, shD, shL, shL_ints, Bool.and_true]
theorem dep_ord (k : Nat) : depD (ordK k) ≤ 50 := by simp only [ordK, TI, depD, depL, depL_ints]; decide
theorem ints_inj : ∀ {a b : List Int}, a.map D.int = b.map D.int → a = b
  | [], [], _ => rfl
  | [], _ :: _, h => by cases h
  | _ :: _, [], h => by cases h
  | x :: a, y :: b, h => by
    rw [List.map_cons, List.map_cons] at h
    injection h with h1 h2
    injection h1 with h1
    rw [h1, ints_inj h2]
theorem ord_inj {a b : Nat} (ha : a < 64) (hb : b < 64) (h1 : ltO a b = false) (h2 : ltO b a = false) : a = b := by
  have := lt_eq (kD_ord a) (kD_ord b) h1 h2
  unfold ordK at this
  injection this with this
  injection this with _ this
  injection this with this _
  injection this with this
  exact bits_inj a ha b hb (ints_inj this)
theorem srtOk_ord (l : List Nat) : srtOk (l.map ordK) = true := by
  unfold srtOk
  rw [Bool.and_eq_true, Bool.and_eq_true, Bool.or_eq_true, Bool.and_eq_true]
  refine ⟨⟨?_, ?_⟩, .inr ⟨?_, ?_⟩⟩
  · rw [List.all_map, List.all_eq_true]; exact fun k _ => kD_ord k
  · rw [List.all_map, List.all_eq_true]
    intro a _
    show (List.all _ _) = true
    rw [List.all_map, List.all_eq_true]; exact fun b _ => sh_ord a b
  · rw [List.all_map, List.all_eq_true]; exact fun k _ => rfl
  · rw [List.all_map, List.all_eq_true]; exact fun k _ => decide_eq_true (dep_ord k)
theorem nodK_ord : ∀ l : List Nat, l.Nodup → (∀ k ∈ l, k < 64) → nodK (l.map ordK) = true
  | [], _, _ => rfl
  | k :: l, hn, hl => by
    rw [List.map_cons]
    unfold nodK
    rw [Bool.and_eq_true]
    have hn' := List.nodup_cons.mp hn
    refine ⟨?_, nodK_ord l hn'.2 fun x hx => hl x (List.mem_cons_of_mem _ hx)⟩
    rw [List.all_map, List.all_eq_true]
    intro b hb
    show (ltO k b || ltO b k) = true
    cases h1 : ltO k b
    · cases h2 : ltO b k
      · have := ord_inj (hl k List.mem_cons_self) (hl b (List.mem_cons_of_mem _ hb)) h1 h2
        exact absurd (this ▸ hb) hn'.1
      · rfl
    · rfl
theorem sortM_filter (p : Nat → Bool) (l : List Nat) (hl : ∀ k ∈ l, k < 64) : sortM ltO (l.filter p) = (sortM ltO l).filter p := by
  have e1 := sortM_map (fun k => (ordK k, D.int (k : Int))) l
  have e2 := sortM_map (fun k => (ordK k, D.int (k : Int))) (l.filter p)
  have e3 : ((sortM ltO l).filter p).map (fun k : Nat => (ordK k, D.int (k : Int))) = sortT ((l.filter p).map (fun k : Nat => (ordK k, D.int (k : Int)))) := by
    refine sortT_eq ?_ ?_ ?_
    · exact ((sortM_perm ltO l).filter p).map _
    · rw [List.pairwise_map]
      refine List.Pairwise.filter p ?_
      have := sortT_rise (l.map (fun k : Nat => (ordK k, D.int (k : Int))))
      rw [e1, List.pairwise_map] at this
      exact this
    · intro x hx y hy h1 h2
      obtain ⟨a, ha, rfl⟩ := List.mem_map.mp hx
      obtain ⟨b, hb, rfl⟩ := List.mem_map.mp hy
      rw [ord_inj (hl a (List.mem_filter.mp ha).1) (hl b (List.mem_filter.mp hb).1) h1 h2]
  have e4 := e2.symm.trans e3.symm
  have inj : ∀ {a b : List Nat}, a.map (fun k : Nat => (ordK k, D.int (k : Int))) = b.map (fun k : Nat => (ordK k, D.int (k : Int))) → a = b := by
    intro a
    induction a with
    | nil => intro b h; cases b with
      | nil => rfl
      | cons y b => cases h
    | cons x a ih =>
      intro b h
      cases b with
      | nil => cases h
      | cons y b =>
        rw [List.map_cons, List.map_cons] at h
        injection h with h1 h2
        injection h1 with _ h1
        injection h1 with h1
        rw [ih h2, show x = y by omega]
  exact inj e4
abbrev setD (k : Nat) : D := TI (bitsN 12 k)
def marksOf (w : Nat) : List Nat := sortM ltO (List.range (2 ^ w))
theorem pow64 {w : Nat} (hw : w ≤ 6) : 2 ^ w ≤ 64 := Nat.le_trans (Nat.pow_le_pow_right (by decide) hw) (by decide)
end My
set_option maxRecDepth 100000
set_option maxHeartbeats 1000000
namespace My
open PySem PyProof.Rows L2 DL
abbrev pairD (rs : List Run) (k : Nat) : D := .tup [setD k, .int (cM rs k)]
def oft (w : Nat) (rs : List Run) (L : Int) : List Nat := (marksOf w).filter fun k => decide (L ≤ cM rs k)
def triD (k : Nat) : D := .tup [.int ((bitsN 12 k).length : Int), TI (bitsN 12 k), .int (k : Int)]
theorem kD_tri (k : Nat) : kD (triD k) = true := by simp only [triD, TI, kD, kDL, kDL_ints, Bool.and_true]
theorem sh_tri (a b : Nat) : shD (triD a) (triD b) = true := by simp only [triD, TI, shD, shL, shL_ints, Bool.and_true]
theorem dep_tri (k : Nat) : depD (triD k) ≤ 50 := by simp only [triD, TI, depD, depL, depL_ints]; decide
theorem srtOk_tri (l : List Nat) : srtOk (l.map triD) = true := by
  unfold srtOk
  rw [Bool.and_eq_true, Bool.and_eq_true, Bool.or_eq_true, Bool.and_eq_true]
  refine ⟨⟨?_, ?_⟩, .inr ⟨?_, ?_⟩⟩
  · rw [List.all_map, List.all_eq_true]; exact fun k _ => kD_tri k
  · rw [List.all_map, List.all_eq_true]
    intro a _
    show (List.all _ _) = true
    rw [List.all_map, List.all_eq_true]; exact fun b _ => sh_tri a b
  · rw [List.all_map, List.all_eq_true]; exact fun k _ => rfl
  · rw [List.all_map, List.all_eq_true]; exact fun k _ => decide_eq_true (dep_tri k)
theorem lt_tri {a b : Nat} (ha : a < 64) (hb : b < 64) : ltT (triD a) (triD b) = ltO a b := by
  by_cases e : a = b
  · subst e
    rw [lt_irr]
    exact (lt_irr (ordK a)).symm
  · unfold triD ltO ordK
    rw [ltT_tup, ltT_tup]
    simp only [ltTL_cons, ltTL_nil]
    have ne : ltO a b = true ∨ ltO b a = true := by
      cases h1 : ltO a b
      · cases h2 : ltO b a
        · exact absurd (ord_inj ha hb h1 h2) e
        · exact .inr rfl
      · exact .inl rfl
    unfold ltO ordK at ne
    rw [ltT_tup, ltT_tup] at ne
    simp only [ltTL_cons, ltTL_nil] at ne
    revert ne
    generalize ltT (D.int ((bitsN 12 a).length : Int)) (D.int ((bitsN 12 b).length : Int)) = p
    generalize ltT (D.int ((bitsN 12 b).length : Int)) (D.int ((bitsN 12 a).length : Int)) = q
    generalize ltT (TI (bitsN 12 a)) (TI (bitsN 12 b)) = r
    generalize ltT (TI (bitsN 12 b)) (TI (bitsN 12 a)) = s
    generalize (ltT (D.int (a : Int)) (D.int (b : Int)) || !ltT (D.int (b : Int)) (D.int (a : Int)) && false) = y
    cases p <;> cases q <;> cases r <;> cases s <;> cases y <;> simp
theorem in_order_eq (l : List Nat) (hl : ∀ k ∈ l, k < 64) (hn : l.length ≤ 1000) : f_law_in_order [.lst (l.map fun k : Nat => .int (k : Int))] = some (.lst ((sortM ltO l).map fun k : Nat => .int (k : Int))) := by
  have hl' : l.length ≤ lim := by show _ ≤ 1000000; omega
  have c : runComp (bN 0) cTrue (eTup (aCons (eCall oLen (aCons (eCall (callD 1 [] f_law_of_mark) (aCons (eV 0) aNil)) aNil)) (aCons (eCall (callD 1 [] f_law_of_mark) (aCons (eV 0) aNil)) (aCons (eV 0) aNil)))) [none] (l.map fun k : Nat => .int (k : Int)) = some (l.map triD) := by
    clear hl hn hl'
    induction l with
    | nil => rfl
    | cons k l ih =>
      have m := of_mark_eq k
      rw [List.map_cons]
      simp (config := {decide := true, implicitDefEqProofs := false}) only [runComp, bN, List.set_cons_zero, cTrue, eTup, aCons, eCall, aNil, Option.map_some, ih, Option.bind_some, if_true, eV0, callD, List.append_nil, List.length_cons, List.length_nil, Nat.reduceAdd, m, oLenT, List.length_map, List.map_cons]
      rfl
  have srt : oSortT [.lst (l.map triD)] = some ((sortM ltO l).map triD) := by
    unfold oSortT
    dsimp only
    rw [srtOk_tri, if_pos rfl]
    have e1 : (l.map triD).map (fun d => (d, d)) = l.map fun k => (triD k, triD k) := by rw [List.map_map]; rfl
    rw [e1, sortM_map, sortM_congr (l2 := ltO) l (fun a ha b hb => lt_tri (hl a ha) (hl b hb)), List.map_map]
    rfl
  have hl2 : (sortM ltO l).length ≤ lim := by rw [(sortM_perm _ _).length_eq]; exact hl'
  have c2 : runComp (bTup 3 (bCons (bN 0) (bCons (bN 1) (bCons (bN 2) bNil)))) cTrue (eV 2) [none, none, none] ((sortM ltO l).map triD) = some ((sortM ltO l).map fun k : Nat => .int (k : Int)) := by
    generalize sortM ltO l = m
    induction m with
    | nil => rfl
    | cons k m ih =>
      rw [List.map_cons]
      simp (config := {decide := true, implicitDefEqProofs := false}) only [runComp, bTup, triD, List.length_cons, List.length_nil, Nat.reduceAdd, bCons, bN, List.set_cons_zero, bNil, if_true, Option.bind_some, List.set_cons_succ, cTrue, ih, Option.map_some, eVs, eV0, List.map_cons]
  (refine run_ok ?_; simp (config := {decide := true, implicitDefEqProofs := false}) only [u_law_in_order, sSeq, sOwn, List.map_cons, List.map_nil, List.length_cons, List.length_nil, Nat.reduceAdd, Nat.reduceSub, List.replicate, List.cons_append, List.nil_append, List.set_cons_succ, List.set_cons_zero, lComp, iSeq, eV0, Option.bind_some, seqD, capR, fzOf, Option.bind_none, List.length_map, hl', c, if_true, Option.map_some, sFrz, sRet, eL, lCall, aCons, aNil, frzs, frz0, eVs, srt, hl2, c2])
theorem pairs_eq (w : Nat) (rs : List Run) (hw : w ≤ 6) (l : List Nat) (hl : ∀ k ∈ l, k < 2 ^ w) (hn : l.length ≤ 1000) :
    f_law_pairs [.lst (l.map fun k : Nat => .int (k : Int)), .lst ((List.range (2 ^ w)).map fun i : Nat => .int (cM rs i))] = some (.lst ((sortM ltO l).map (pairD rs))) := by
  have h2 := pow64 hw
  have io := in_order_eq l (fun k hk => by have := hl k hk; omega) hn
  have hl2 : (sortM ltO l).length ≤ lim := by rw [(sortM_perm _ _).length_eq]; show _ ≤ 1000000; omega
  have hm : ∀ k ∈ sortM ltO l, k < 2 ^ w := fun k hk => hl k ((sortM_perm ltO l).mem_iff.mp hk)
  have c : runComp (bN 0) cTrue (eTup (aCons (eCall (callD 1 [] f_law_of_mark) (aCons (eV 0) aNil)) (aCons (eOp oIx (eV 1) (eV 0)) aNil))) [none, some (.fz (.lst ((List.range (2 ^ w)).map fun i : Nat => .int (cM rs i))))] ((sortM ltO l).map fun k : Nat => .int (k : Int)) = some ((sortM ltO l).map (pairD rs)) := by
    clear hl2 io
    generalize sortM ltO l = m at hm
    induction m with
    | nil => rfl
    | cons k m ih =>
      have ih' := ih fun x hx => hm x (List.mem_cons_of_mem _ hx)
      have mm := of_mark_eq k
      have hi : atI ((List.range (2 ^ w)).map fun i : Nat => D.int (cM rs i)) (k : Int) = some (.int (cM rs k)) := by
        rw [atI_nat', List.getElem?_map, List.getElem?_range (hm k List.mem_cons_self)]; rfl
      rw [List.map_cons]
      simp (config := {decide := true, implicitDefEqProofs := false}) only [runComp, bN, List.set_cons_zero, cTrue, eTup, aCons, eCall, aNil, Option.map_some, eOp, ih', Option.bind_some, if_true, eV0, callD, List.append_nil, List.length_cons, List.length_nil, Nat.reduceAdd, mm, eVs, oIxL, hi, List.map_cons]
  (refine run_ok ?_; simp (config := {decide := true, implicitDefEqProofs := false}) only [u_law_pairs, sRet, List.map_cons, List.map_nil, List.length_cons, List.length_nil, Nat.reduceAdd, Nat.reduceSub, List.replicate, List.append_nil, eL, lComp, iSeq, eCall, aCons, eV0, aNil, Option.map_some, Option.bind_some, callD, io, if_true, seqD, capR, fzOf, Option.bind_none, List.getElem?_cons_succ, List.getElem?_cons_zero, Option.join_some, List.length_map, hl2, c])
theorem whole_eq (a : Int) : f_law_whole [.int a, .int a] = some (.bl true) := by
  (refine run_ok ?_; simp (config := {decide := true, implicitDefEqProofs := false}) only [u_law_whole, sRet, List.map_cons, List.map_nil, List.length_cons, List.length_nil, Nat.reduceAdd, Nat.reduceSub, List.replicate, List.append_nil, eAnd, eIsi, eV0, Option.map_some, isi_all, isB, eNot, Option.bind_some, Bool.not_false, eOp, eVs, oEq_int, decide_true, if_true])
theorem same_loop1 (x : Rho) (hx : x.length = 4) : ∀ (b : List Int) (b4 b5 : Option B), ∃ b4' b5', runFor (bTup 2 (bCons (bN 4) (bCons (bN 5) bNil))) lb_law_same_1 (zipD (b.map D.int) (b.map D.int)) (x ++ [b4, b5]) = some (.nx, x ++ [b4', b5'])
  | [], b4, b5 => ⟨b4, b5, rfl⟩
  | n :: b, b4, b5 => by
    obtain ⟨b4', b5', ih⟩ := same_loop1 x hx b (some (.fz (.int n))) (some (.fz (.int n)))
    match x, hx with
    | [x0, x1, x2, x3], _ =>
      have wq := whole_eq n
      have e0 : bTup 2 (bCons (bN 4) (bCons (bN 5) bNil)) (.tup [.int n, .int n]) [x0, x1, x2, x3, b4, b5] = some [x0, x1, x2, x3, some (.fz (.int n)), some (.fz (.int n))] := rfl
      have body : lb_law_same_1 [x0, x1, x2, x3, some (.fz (.int n)), some (.fz (.int n))] = some (.nx, [x0, x1, x2, x3, some (.fz (.int n)), some (.fz (.int n))]) := by
        simp (config := {decide := true, implicitDefEqProofs := false}) only [lb_law_same_1, sIf, bNot, bT, eCall, aCons, eVs, eV0, aNil, Option.map_some, Option.bind_some, callD, List.append_nil, List.length_cons, List.length_nil, Nat.reduceAdd, wq, if_true, truD, Bool.not_true, sRet, eC, sNil, if_false]
      have z : zipD ((n :: b).map D.int) ((n :: b).map D.int) = .tup [.int n, .int n] :: zipD (b.map D.int) (b.map D.int) := rfl
      exact ⟨b4', b5', by rw [z]; exact (runFor_nx e0 body).trans ih⟩
abbrev prD (p : List Int × Int) : D := .tup [TI p.1, .int p.2]
theorem same_loop2 (x0 x1 : Option B) : ∀ (ps : List (List Int × Int)) (b2 b3 b4 b5 : Option B), ∃ b2' b3' b4' b5', runFor (bTup 2 (bCons (bN 2) (bCons (bN 3) bNil))) lb_law_same_2 (zipD (ps.map prD) (ps.map prD)) [x0, x1, b2, b3, b4, b5] = some (.nx, [x0, x1, b2', b3', b4', b5'])
  | [], b2, b3, b4, b5 => ⟨b2, b3, b4, b5, rfl⟩
  | p :: ps, b2, b3, b4, b5 => by
    obtain ⟨d4, d5, e1⟩ := same_loop1 [x0, x1, some (.fz (prD p)), some (.fz (prD p))] rfl p.1 b4 b5
    simp only [List.cons_append, List.nil_append] at e1
    obtain ⟨b2', b3', b4', b5', ih⟩ := same_loop2 x0 x1 ps (some (.fz (prD p))) (some (.fz (prD p))) d4 d5
    have wq := whole_eq p.2
    have e0 : bTup 2 (bCons (bN 2) (bCons (bN 3) bNil)) (.tup [prD p, prD p]) [x0, x1, b2, b3, b4, b5] = some [x0, x1, some (.fz (prD p)), some (.fz (prD p)), b4, b5] := rfl
    have body : lb_law_same_2 [x0, x1, some (.fz (prD p)), some (.fz (prD p)), b4, b5] = some (.nx, [x0, x1, some (.fz (prD p)), some (.fz (prD p)), d4, d5]) := by
      simp (config := {decide := true, implicitDefEqProofs := false}) only [lb_law_same_2, sSeq, sIf, bOr, bNot, bT, eIsi, eVs, eV0, Option.map_some, isi_all, Option.bind_some, truD, Bool.not_true, bCmp, eOp, eCall, aCons, aNil, oLenT, List.length_cons, List.length_nil, Nat.reduceAdd, eC, oNe_int, decide_true, isB, oIxT, atI_lit, List.getElem?_cons_succ, List.getElem?_cons_zero, callD, List.append_nil, wq, if_true, if_false, sRet, sNil, sFor, iZip, seqD, List.length_map, e1]
    have z : zipD ((p :: ps).map prD) ((p :: ps).map prD) = .tup [prD p, prD p] :: zipD (ps.map prD) (ps.map prD) := rfl
    exact ⟨b2', b3', b4', b5', by rw [z]; exact (runFor_nx e0 body).trans ih⟩
theorem same_eq' (ps : List (List Int × Int)) : f_law_same [.tup (ps.map prD), .lst (ps.map prD)] = some (.bl true) := by
  obtain ⟨b2, b3, b4, b5, e⟩ := same_loop2 (some (.fz (.tup (ps.map prD)))) (some (.fz (.lst (ps.map prD)))) ps none none none none
  (refine run_ok ?_; simp (config := {decide := true, implicitDefEqProofs := false}) only [u_law_same, sSeq, sIf, bOr, bNot, bT, eIsi, List.map_cons, List.map_nil, List.length_cons, List.length_nil, Nat.reduceAdd, Nat.reduceSub, List.replicate, List.cons_append, List.nil_append, eV0, Option.map_some, isi_all, Option.bind_some, truD, Bool.not_true, bCmp, eOp, eCall, aCons, aNil, oLenT, List.length_map, eVs, oLenL, oNe_int, decide_true, isB, if_false, sRet, eC, sNil, sFor, iZip, seqD, e])
theorem same_pairs (rs : List Run) (l : List Nat) : f_law_same [.tup (l.map (pairD rs)), .lst (l.map (pairD rs))] = some (.bl true) := by
  have := same_eq' (l.map fun k => (bitsN 12 k, cM rs k))
  rw [List.map_map] at this
  exact this
end My
set_option maxRecDepth 100000
set_option maxHeartbeats 1000000
namespace My
open PySem PyProof.Rows L2 DL
def grownT : Nat → Nat → Nat → List Nat
  | 0, _, m => [m]
  | d + 1, s, m => grownT d (s + 1) m ++ grownT d (s + 1) (m + 2 ^ s)
def oftG (p : Nat → Bool) : Nat → Nat → Nat → List Nat
  | 0, _, _ => []
  | d + 1, s, m => (if p (m + 2 ^ s) then (m + 2 ^ s) :: oftG p d (s + 1) (m + 2 ^ s) else []) ++ oftG p d (s + 1) m
def oftD (p : Nat → Bool) (d s m : Nat) : List Nat := if p m then m :: oftG p d s m else []
theorem oftG_perm (p : Nat → Bool) (anti : ∀ d s m, s + d ≤ 6 → m < 2 ^ s → p m = false → ∀ k ∈ grownT d s m, p k = false) : ∀ d s m, s + d ≤ 6 → m < 2 ^ s → p m = true → (m :: oftG p d s m).Perm ((grownT d s m).filter p)
  | 0, s, m, _, _, h => by simp [oftG, grownT, h]
  | d + 1, s, m, hd, hm, h => by
    have e2 : 2 ^ (s + 1) = 2 ^ s * 2 := Nat.pow_succ ..
    have i1 := oftG_perm p anti d (s + 1) m (by omega) (by omega) h
    rw [oftG, grownT, List.filter_append]
    have i2 : (if p (m + 2 ^ s) then (m + 2 ^ s) :: oftG p d (s + 1) (m + 2 ^ s) else []).Perm ((grownT d (s + 1) (m + 2 ^ s)).filter p) := by
      cases hp : p (m + 2 ^ s) with
      | true => rw [if_pos rfl]; exact oftG_perm p anti d (s + 1) _ (by omega) (by omega) hp
      | false =>
        rw [if_neg Bool.false_ne_true]
        have := anti d (s + 1) (m + 2 ^ s) (by omega) (by omega) hp
        rw [List.filter_eq_nil_iff.mpr fun k hk => by rw [this k hk]; exact Bool.false_ne_true]
    exact ((List.perm_append_comm.cons m).trans (i1.append i2 : _))
theorem oftD_perm (p : Nat → Bool) (anti : ∀ d s m, s + d ≤ 6 → m < 2 ^ s → p m = false → ∀ k ∈ grownT d s m, p k = false) (d s m : Nat) (hd : s + d ≤ 6) (hm : m < 2 ^ s) : (oftD p d s m).Perm ((grownT d s m).filter p) := by
  unfold oftD
  cases h : p m with
  | true => rw [if_pos rfl]; exact oftG_perm p anti d s m hd hm h
  | false =>
    rw [if_neg Bool.false_ne_true, List.filter_eq_nil_iff.mpr fun k hk => by rw [anti d s m hd hm h k hk]; exact Bool.false_ne_true]
theorem oftG_len (p : Nat → Bool) : ∀ d s m, (oftG p d s m).length + 1 ≤ 2 ^ d
  | 0, _, _ => by simp [oftG]
  | d + 1, s, m => by
    have h1 := oftG_len p d (s + 1) m
    have h2 := oftG_len p d (s + 1) (m + 2 ^ s)
    rw [oftG, List.length_append, Nat.pow_succ]
    split
    · rw [List.length_cons]; omega
    · simp only [List.length_nil]; omega
theorem grown_range : ∀ w : Nat, w < 7 → (grownT w 0 0).Perm (List.range (2 ^ w)) := by decide +kernel
theorem sortM_same {a b : List Nat} (h : a.Perm b) (hb : ∀ k ∈ b, k < 64) : sortM ltO a = sortM ltO b := by
  have e1 := sortM_map (fun k => (ordK k, D.int (k : Int))) a
  have e2 := sortM_map (fun k => (ordK k, D.int (k : Int))) b
  have e3 : (sortM ltO a).map (fun k : Nat => (ordK k, D.int (k : Int))) = sortT (b.map (fun k : Nat => (ordK k, D.int (k : Int)))) := by
    refine sortT_eq ?_ ?_ ?_
    · exact ((sortM_perm ltO a).trans h).map _
    · have := sortT_rise (a.map (fun k : Nat => (ordK k, D.int (k : Int))))
      rw [e1] at this
      exact this
    · intro x hx y hy h1 h2
      obtain ⟨c, hc, rfl⟩ := List.mem_map.mp hx
      obtain ⟨d, hd, rfl⟩ := List.mem_map.mp hy
      rw [ord_inj (hb c hc) (hb d hd) h1 h2]
  have e4 := e3.trans e2
  have inj : ∀ {a b : List Nat}, a.map (fun k : Nat => (ordK k, D.int (k : Int))) = b.map (fun k : Nat => (ordK k, D.int (k : Int))) → a = b := by
    intro a
    induction a with
    | nil => intro b h; cases b with
      | nil => rfl
      | cons y b => cases h
    | cons x a ih =>
      intro b h
      cases b with
      | nil => cases h
      | cons y b =>
        rw [List.map_cons, List.map_cons] at h
        injection h with h1 h2
        injection h1 with _ h1
        injection h1 with h1
        rw [ih h2, show x = y by omega]
  exact inj e4
theorem keyf_eq (rs : List Run) (k : Nat) : key_in_order_1 [pairD rs k] = some (ordK k) := by
  have e : f_order_of [setD k] = some (ordK k) := by
    (refine run_ok ?_; simp (config := {decide := true, implicitDefEqProofs := false}) only [u_order_of, sRet, List.map_cons, List.map_nil, List.length_cons, List.length_nil, Nat.reduceAdd, Nat.reduceSub, List.replicate, List.append_nil, eTup, aCons, eCall, eV0, aNil, Option.map_some, Option.bind_some, oLenT, List.length_map, if_true])
    rfl
  unfold key_in_order_1
  simp (config := {decide := true, implicitDefEqProofs := false}) only [runFn, sRet, List.map_cons, List.map_nil, List.length_cons, List.length_nil, Nat.reduceAdd, Nat.reduceSub, List.replicate, List.append_nil, eCall, aCons, eOp, eV0, eC, Option.bind_some, oIxT, atI_lit, List.getElem?_cons_zero, aNil, Option.map_some, callD, e, if_true]
theorem keysf (rs : List Run) (l : List Nat) : keysD key_in_order_1 (l.map (pairD rs)) = some (l.map ordK) := by
  induction l with
  | nil => rfl
  | cons k l ih =>
    rw [List.map_cons]
    simp only [keysD, keyf_eq, ih, Option.bind_some, Option.map_some, List.map_cons]
theorem in_order_f (rs : List Run) (l : List Nat) (hn : l.Nodup) (hl : ∀ k ∈ l, k < 64) : f_in_order [.lst (l.map (pairD rs))] = some (.tup ((sortM ltO l).map (pairD rs))) := by
  have srt : oSortK1 key_in_order_1 [.lst (l.map (pairD rs))] = some ((sortM ltO l).map (pairD rs)) := by
    show oSortK key_in_order_1 (.lst (l.map (pairD rs))) = _
    unfold oSortK
    dsimp only
    rw [keysf, Option.bind_some, srtOk_ord, nodK_ord _ hn hl]
    have ez : (l.map ordK).zip (l.map (pairD rs)) = l.map fun k => (ordK k, pairD rs k) := by
      rw [List.zip_map']
    rw [ez, sortM_map]
    simp only [Bool.and_self, if_true, List.map_map]
    exact rfl
  (refine run_ok ?_; simp (config := {decide := true, implicitDefEqProofs := false}) only [u_in_order, sRet, List.map_cons, List.map_nil, List.length_cons, List.length_nil, Nat.reduceAdd, Nat.reduceSub, List.replicate, List.append_nil, eCall, aCons, eL, lCall, eV0, aNil, Option.map_some, Option.bind_some, srt, oTuple_l])
end My
set_option maxRecDepth 100000
set_option maxHeartbeats 1000000
namespace My
open PySem PyProof.Rows L2 DL
theorem inF_int (x : Int) : ∀ b : List Int, inF (.int x) (b.map D.int) = decide (x ∈ b)
  | [] => rfl
  | y :: b => by
    show ((eqF (.int y) (.int x)) || inF (.int x) (b.map D.int)) = _
    rw [inF_int x b]
    show ((y == x) || _) = _
    rw [Bool.eq_iff_iff]
    simp only [Bool.or_eq_true, beq_iff_eq, decide_eq_true_eq, List.mem_cons]
    constructor <;> rintro (h | h)
    · exact .inl h.symm
    · exact .inr h
    · exact .inl h.symm
    · exact .inr h
theorem flat_ints (b : List Int) : (b.map D.int).all flat = true := by
  rw [List.all_map, List.all_eq_true]; intro x _; rfl
theorem oIn_ints (x : Int) (b : List Int) : oIn false (.int x) (TI b) = some (.bl (decide (x ∈ b))) := by
  show (if (flat (.int x) && (b.map D.int).all flat) = true then some (D.bl (if false = true then !inF (.int x) (b.map D.int) else inF (.int x) (b.map D.int))) else none) = _
  rw [flat_ints, inF_int]; rfl
def col : List Run → Int → Int
  | [], _ => 0
  | r :: rs, w => (if w ∈ r.2 then 1 else 0) + 2 * col rs w
theorem column_comp (w : Int) : ∀ (rs : List Run) (k : Nat), k + rs.length ≤ 1000 → ∃ L : List Int,
    runComp (bTup 2 (bCons (bN 0) (bCons (bN 1) bNil))) (bCmp (oIn false) (eV 2) (eOp oIx (eV 1) (eC (.int 1)))) (eOp oShl (eC (.int 1)) (eV 0)) [none, none, some (.fz (.int w))] (zipD (rangeD (k : Int) rs.length) (rs.map runD)) = some (L.map D.int) ∧ L.sum = 2 ^ k * col rs w
  | [], k, _ => ⟨[], rfl, by simp [col]⟩
  | r :: rs, k, h => by
    simp only [List.length_cons] at h
    obtain ⟨L, e, hs⟩ := column_comp w rs (k + 1) (by omega)
    rw [show ((k + 1 : Nat) : Int) = (k : Int) + 1 by omega] at e
    have z : zipD (rangeD (k : Int) (r :: rs).length) ((r :: rs).map runD) = .tup [.int (k : Int), runD r] :: zipD (rangeD ((k : Int) + 1) rs.length) (rs.map runD) := by
      rw [List.length_cons, rangeD_succ]; rfl
    have hin := oIn_ints w r.2
    have hsh : oShl (.int 1) (.int (k : Int)) = some (.int (2 ^ k)) := by
      rw [oShl_int 1 (k : Int) (by omega) (by omega) (by decide), Int.toNat_natCast, Int.one_mul]
    rw [z]
    by_cases hb : w ∈ r.2
    · refine ⟨2 ^ k :: L, ?_, ?_⟩
      · simp (config := {decide := true, implicitDefEqProofs := false}) only [runComp, bTup, List.length_cons, List.length_nil, Nat.reduceAdd, bCons, bN, List.set_cons_zero, bNil, if_true, Option.bind_some, List.set_cons_succ, bCmp, eOp, eC, e, Option.map_some, eVs, eV0, oIxT, atI_lit, List.getElem?_cons_succ, List.getElem?_cons_zero, hin, hb, decide_true, isB, hsh, List.map_cons]
      · rw [List.sum_cons, hs, col, if_pos hb, Int.mul_add, ← Int.mul_assoc, Int.pow_succ]; simp
    · refine ⟨L, ?_, ?_⟩
      · simp (config := {decide := true, implicitDefEqProofs := false}) only [runComp, bTup, List.length_cons, List.length_nil, Nat.reduceAdd, bCons, bN, List.set_cons_zero, bNil, if_true, Option.bind_some, List.set_cons_succ, bCmp, eOp, eC, e, Option.map_some, eVs, eV0, oIxT, atI_lit, List.getElem?_cons_succ, List.getElem?_cons_zero, hin, hb, decide_false, isB, if_false]
      · rw [hs, col, if_neg hb, Int.zero_add, ← Int.mul_assoc, Int.pow_succ]
theorem column_eq (rs : List Run) (w : Int) (h : rs.length ≤ 1000) : f_column [.tup (rs.map runD), .int w] = some (.int (col rs w)) := by
  obtain ⟨L, e, hs⟩ := column_comp w rs 0 (by omega)
  have a := oSum_ints L
  rw [hs, show (2 : Int) ^ 0 * col rs w = col rs w by simp] at a
  have hl : (zipD (rangeD 0 rs.length) (rs.map runD)).length ≤ lim := by
    unfold zipD
    rw [List.length_zipWith, rangeD_len, List.length_map]; show _ ≤ 1000000; omega
  rw [show ((0 : Nat) : Int) = 0 from rfl] at e
  (refine run_ok ?_; simp (config := {decide := true, implicitDefEqProofs := false}) only [u_column, sRet, List.map_cons, List.map_nil, List.length_cons, List.length_nil, Nat.reduceAdd, Nat.reduceSub, List.replicate, List.append_nil, eCall, aCons, eL, lComp, iEnum, eV0, seqD, Option.bind_some, Option.map_some, enumD, List.length_map, capR, fzOf, Option.bind_none, List.getElem?_cons_succ, List.getElem?_cons_zero, Option.join_some, hl, e, if_true, aNil, a])
theorem columns_eq (w : Nat) (rs : List Run) (hw : w ≤ 1000) (h : rs.length ≤ 1000) : f_columns [pileD w rs] = some (.tup ((List.range w).map fun i : Nat => .int (col rs (i : Int)))) := by
  have hl : (rangeD 0 w).length ≤ lim := by rw [rangeD_len]; show _ ≤ 1000000; omega
  have c : runComp (bN 0) cTrue (eCall (callD 2 [] f_column) (aCons (eOp oIx (eV 1) (eC (.int 1))) (aCons (eV 0) aNil))) [none, some (.fz (pileD w rs))] (rangeD 0 w) = some ((List.range w).map fun i : Nat => .int (col rs (i : Int))) := by
    have := runComp_map (b := bN 0) (f := eCall (callD 2 [] f_column) (aCons (eOp oIx (eV 1) (eC (.int 1))) (aCons (eV 0) aNil))) (ρ := [none, some (.fz (pileD w rs))]) (fun d => match d with | .int x => .int (col rs x) | _ => .non) (ds := rangeD 0 w) fun d hd => by
      simp only [rangeD, List.mem_map] at hd
      obtain ⟨i, _, rfl⟩ := hd
      have ce := column_eq rs (0 + (i : Int)) h
      refine ⟨_, rfl, ?_⟩
      simp (config := {decide := true, implicitDefEqProofs := false}) only [eCall, aCons, eOp, List.set_cons_zero, eVs, eV0, eC, Option.bind_some, oIxT, atI_lit, List.getElem?_cons_succ, List.getElem?_cons_zero, aNil, Option.map_some, callD, List.append_nil, List.length_cons, List.length_nil, Nat.reduceAdd, ce, if_true]
    rw [this, rangeD, List.map_map]
    congr 1
    apply List.map_congr_left
    intro i _
    simp only [Function.comp, Int.zero_add]
  have r : iR1 (aCons (eOp oIx (eV 0) (eC (.int 0))) aNil) [some (.fz (pileD w rs))] = some (rangeD 0 w) := iR1_int _ _ (w : Int) rfl (by omega) (by omega)
  (refine run_ok ?_; simp (config := {decide := true, implicitDefEqProofs := false}) only [u_columns, sRet, List.map_cons, List.map_nil, List.length_cons, List.length_nil, Nat.reduceAdd, Nat.reduceSub, List.replicate, List.append_nil, eCall, aCons, eL, lComp, r, capR, fzOf, Option.bind_none, Option.bind_some, List.getElem?_cons_zero, Option.join_some, hl, c, if_true, Option.map_some, aNil, oTuple_l])
def has (r : Run) (m : Nat) : Bool := decide (Builtin.bitAnd (mk r.2) (m : Int) = (m : Int))
def cmk : List Run → Nat → Nat
  | [], _ => 0
  | r :: rs, m => (if has r m then 1 else 0) + 2 * cmk rs m
theorem has_t {r : Run} {t : Nat} (ht : t < 64) (e : r.2 = bitsN 12 t) (m : Nat) : has r m = decide (t &&& m = m) := by
  unfold has
  rw [e, (bits_small t ht).2, and_nat]
  exact decide_eq_decide.mpr (by omega)
theorem mem_bits : ∀ t : Nat, t < 64 → ∀ i : Nat, i < 6 → (decide ((i : Int) ∈ bitsN 12 t) = decide (t &&& 2 ^ i = 2 ^ i)) := by decide +kernel
theorem and_grow : ∀ t : Nat, t < 64 → ∀ i : Nat, i < 6 → ∀ m : Nat, m < 2 ^ i → decide (t &&& (m + 2 ^ i) = m + 2 ^ i) = (decide (t &&& m = m) && decide (t &&& 2 ^ i = 2 ^ i)) := by decide +kernel
theorem col_cmk (i : Nat) (hi : i < 6) : ∀ rs : List Run, (∀ r ∈ rs, ∃ t, t < 64 ∧ r.2 = bitsN 12 t) → col rs (i : Int) = (cmk rs (2 ^ i) : Int)
  | [], _ => rfl
  | r :: rs, h => by
    obtain ⟨t, ht, e⟩ := h r List.mem_cons_self
    have ih := col_cmk i hi rs fun x hx => h x (List.mem_cons_of_mem _ hx)
    have hb := mem_bits t ht i hi
    rw [col, cmk, ih, has_t ht e, e]
    by_cases hm : (i : Int) ∈ bitsN 12 t
    · rw [decide_eq_true hm] at hb
      rw [if_pos hm, if_pos hb.symm]; omega
    · rw [decide_eq_false hm] at hb
      rw [if_neg hm, if_neg (by rw [← hb]; exact Bool.false_ne_true)]; omega
theorem land_bit (a b x y : Nat) (ha : a < 2) (hb : b < 2) : (a + 2 * x) &&& (b + 2 * y) = (if a = 1 ∧ b = 1 then 1 else 0) + 2 * (x &&& y) := by
  have h1 : ((a + 2 * x) &&& (b + 2 * y)) / 2 = x &&& y := by
    rw [Nat.and_div_two]
    congr 1 <;> omega
  have h2 : ((a + 2 * x) &&& (b + 2 * y)) % 2 = 1 ↔ (a + 2 * x) % 2 = 1 ∧ (b + 2 * y) % 2 = 1 := Nat.and_mod_two_eq_one
  have h3 : (a + 2 * x) % 2 = a := by omega
  have h4 : (b + 2 * y) % 2 = b := by omega
  rw [h3, h4] at h2
  by_cases hc : a = 1 ∧ b = 1
  · rw [if_pos hc]; have := h2.mpr hc; omega
  · rw [if_neg hc]
    have : ¬ ((a + 2 * x) &&& (b + 2 * y)) % 2 = 1 := fun z => hc (h2.mp z)
    omega
theorem meet_cmk (i m : Nat) (hi : i < 6) (hm : m < 2 ^ i) : ∀ rs : List Run, (∀ r ∈ rs, ∃ t, t < 64 ∧ r.2 = bitsN 12 t) → cmk rs m &&& cmk rs (2 ^ i) = cmk rs (m + 2 ^ i)
  | [], _ => by simp [cmk]
  | r :: rs, h => by
    obtain ⟨t, ht, e⟩ := h r List.mem_cons_self
    have ih := meet_cmk i m hi hm rs fun x hx => h x (List.mem_cons_of_mem _ hx)
    have g := and_grow t ht i hi m hm
    rw [cmk, cmk, cmk, has_t ht e, has_t ht e, has_t ht e, g, land_bit _ _ _ _ (by split <;> decide) (by split <;> decide), ih]
    cases decide (t &&& m = m) <;> cases decide (t &&& 2 ^ i = 2 ^ i) <;> simp
theorem cmk_zero : ∀ rs : List Run, (∀ r ∈ rs, ∃ t, t < 64 ∧ r.2 = bitsN 12 t) → cmk rs 0 + 1 = 2 ^ rs.length
  | [], _ => rfl
  | r :: rs, h => by
    obtain ⟨t, ht, e⟩ := h r List.mem_cons_self
    have ih := cmk_zero rs fun x hx => h x (List.mem_cons_of_mem _ hx)
    rw [cmk, has_t ht e, if_pos (by simp), List.length_cons, Nat.pow_succ]
    omega
theorem bask_comp (m c : Nat) : ∀ (rs : List Run) (k : Nat), c / 2 ^ k = cmk rs m → k + rs.length ≤ 1000 →
    runComp (bTup 2 (bCons (bN 0) (bCons (bN 1) bNil))) (bCmp oEq (eOp oMod (eOp oShr (eV 2) (eV 0)) (eC (.int 2))) (eC (.int 1))) (eOp oIx (eV 1) (eC (.int 0))) [none, none, some (.fz (.int (c : Int)))] (zipD (rangeD (k : Int) rs.length) (rs.map runD)) =
      some (((rs.filter fun r => has r m).map (·.1)).map D.int)
  | [], k, _, _ => rfl
  | r :: rs, k, hc, h => by
    simp only [List.length_cons] at h
    have hc2 : c / 2 ^ (k + 1) = cmk rs m := by
      rw [Nat.pow_succ, ← Nat.div_div_eq_div_mul, hc, cmk]
      split <;> omega
    have e := bask_comp m c rs (k + 1) hc2 (by omega)
    rw [show ((k + 1 : Nat) : Int) = (k : Int) + 1 by omega] at e
    have z : zipD (rangeD (k : Int) (r :: rs).length) ((r :: rs).map runD) = .tup [.int (k : Int), runD r] :: zipD (rangeD ((k : Int) + 1) rs.length) (rs.map runD) := by
      rw [List.length_cons, rangeD_succ]; rfl
    have hs := shr_nat c k
    have hm : (((c / 2 ^ k : Nat) : Int)) % 2 = if has r m then 1 else 0 := by
      rw [hc, cmk]
      split <;> omega
    rw [z]
    cases hb : has r m with
    | true =>
      rw [hb, if_pos rfl] at hm
      rw [List.filter_cons, if_pos hb]
      simp (config := {decide := true, implicitDefEqProofs := false}) only [runComp, bTup, List.length_cons, List.length_nil, Nat.reduceAdd, bCons, bN, List.set_cons_zero, bNil, if_true, Option.bind_some, List.set_cons_succ, bCmp, eOp, eC, e, Option.map_some, eVs, eV0, hs, Int.reduceLT, oMod_int, hm, oEq_int, decide_true, isB, oIxT, atI_lit, List.getElem?_cons_zero, List.map_cons]
    | false =>
      rw [hb, if_neg Bool.false_ne_true] at hm
      rw [List.filter_cons, if_neg (by rw [hb]; exact Bool.false_ne_true)]
      simp (config := {decide := true, implicitDefEqProofs := false}) only [runComp, bTup, List.length_cons, List.length_nil, Nat.reduceAdd, bCons, bN, List.set_cons_zero, bNil, if_true, Option.bind_some, List.set_cons_succ, bCmp, eOp, eC, e, Option.map_some, eVs, eV0, hs, Int.reduceLT, oMod_int, hm, oEq_int, decide_false, isB, oIxT, atI_lit, List.getElem?_cons_zero, if_false]
theorem baskets_eq (rs : List Run) (m : Nat) (h : rs.length ≤ 1000) : f_baskets_in [.int (cmk rs m : Int), .tup (rs.map runD)] = some (.int (cM rs m)) := by
  have e := bask_comp m (cmk rs m) rs 0 (by simp) (by omega)
  have a := oSum_ints ((rs.filter fun r => has r m).map (·.1))
  have hl : (zipD (rangeD 0 rs.length) (rs.map runD)).length ≤ lim := by
    unfold zipD
    rw [List.length_zipWith, rangeD_len, List.length_map]; show _ ≤ 1000000; omega
  rw [show ((0 : Nat) : Int) = 0 from rfl] at e
  (refine run_ok ?_; simp (config := {decide := true, implicitDefEqProofs := false}) only [u_baskets_in, sRet, List.map_cons, List.map_nil, List.length_cons, List.length_nil, Nat.reduceAdd, Nat.reduceSub, List.replicate, List.append_nil, eCall, aCons, eL, lComp, iEnum, eVs, eV0, seqD, Option.bind_some, Option.map_some, enumD, List.length_map, capR, fzOf, Option.bind_none, List.getElem?_cons_zero, Option.join_some, hl, e, if_true, aNil, a])
  rfl
end My
set_option maxRecDepth 100000
set_option maxHeartbeats 1000000
namespace My
open PySem PyProof.Rows L2 DL
def firstOf (b : List Int) : Int := match b.getLast? with
  | some x => x + 1
  | none => 0
theorem bits_grow : ∀ i : Nat, i < 6 → ∀ m : Nat, m < 2 ^ i → bitsN 12 (m + 2 ^ i) = bitsN 12 m ++ [(i : Int)] := by decide +kernel
theorem first_grow (b : List Int) (i : Nat) : firstOf (b ++ [(i : Int)]) = ((i + 1 : Nat) : Int) := by
  unfold firstOf
  rw [List.getLast?_append]
  simp
theorem last_ix (b : List Int) (x : Int) : oIx (TI (b ++ [x])) (.int (-1)) = some (.int x) := by
  rw [oIxT, atI_neg1, List.map_append, List.map_cons, List.map_nil, List.getLast?_append]
  simp
theorem iR2_int {fa : FA} {ρ : Rho} {i j : Int} (ha : fa ρ = some [.int i, .int j]) (h1 : -(2 ^ 62) ≤ i) (h2 : i < 2 ^ 62) (h3 : -(2 ^ 62) ≤ j) (h4 : j < 2 ^ 62) : iR2 fa ρ = some (rangeD i (j - i).toNat) := by
  unfold iR2
  rw [ha, Option.bind_some]
  dsimp only
  rw [decide_eq_true h1, decide_eq_true h2, decide_eq_true h3, decide_eq_true h4]
  rfl
theorem one_more_eq (b : List Int) (w s : Nat) (hs : firstOf b = (s : Int)) (hb : b.length ≤ 100) (hw : w ≤ 100) (hs2 : s ≤ 100) : f_one_ware_more [TI b, .int (w : Int)] = some (.lst ((List.range (w - s)).map fun i : Nat => TI (b ++ [((s + i : Nat) : Int)]))) := by
  have e : eIf (bT (eV 0)) (eOp oPlus (eOp oIx (eV 0) (eUn oNeg (eC (.int 1)))) (eC (.int 1))) (eC (.int 0)) [some (.fz (TI b)), some (.fz (.int (w : Int))), none] = some (.int (s : Int)) := by
    rw [← hs]
    cases b with
    | nil => rfl
    | cons x r =>
      have hx : ∃ b' y, x :: r = b' ++ [y] := ⟨(x :: r).dropLast, (x :: r).getLast (by simp), (List.dropLast_concat_getLast (by simp)).symm⟩
      obtain ⟨b', y, e⟩ := hx
      have ht : bT (eV 0) [some (.fz (TI (x :: r))), some (.fz (.int (w : Int))), none] = some true := rfl
      unfold eIf
      rw [ht, Option.bind_some, if_pos rfl, e]
      have hf : firstOf (b' ++ [y]) = y + 1 := by unfold firstOf; rw [List.getLast?_append]; simp
      rw [hf]
      exact x_op (x_op (x_v rfl) (x_un x_c rfl) (last_ix b' y)) x_c rfl
  have r : iR2 (aCons (eV 2) (aCons (eV 1) aNil)) [some (.fz (TI b)), some (.fz (.int (w : Int))), some (.fz (.int (s : Int)))] = some (rangeD (s : Int) (w - s)) := by
    rw [iR2_int (x_cons (x_v rfl) (x_cons (x_v rfl) x_nil)) (by omega) (by omega) (by omega) (by omega), show ((w : Int) - (s : Int)).toNat = w - s by omega]
  have hl : (rangeD (s : Int) (w - s)).length ≤ lim := by rw [rangeD_len]; show _ ≤ 1000000; omega
  have c : runComp (bN 0) cTrue (eOp oPlus (eV 1) (eTup (aCons (eV 0) aNil))) [none, some (.fz (TI b))] (rangeD (s : Int) (w - s)) = some ((List.range (w - s)).map fun i : Nat => TI (b ++ [((s + i : Nat) : Int)])) := by
    have := runComp_map (b := bN 0) (f := eOp oPlus (eV 1) (eTup (aCons (eV 0) aNil))) (ρ := [none, some (.fz (TI b))]) (fun d => match d with | .int x => TI (b ++ [x]) | _ => .non) (ds := rangeD (s : Int) (w - s)) fun d hd => by
      simp only [rangeD, List.mem_map] at hd
      obtain ⟨i, _, rfl⟩ := hd
      refine ⟨_, rfl, x_op (x_v rfl) (x_tup (x_cons (x_v rfl) x_nil) (by show 1 ≤ 1000000; decide)) ?_⟩
      rw [oPlus_tup _ _ (by rw [List.length_map]; simp; omega)]
      simp only [TI, List.map_append, List.map_cons, List.map_nil]
    rw [this, rangeD, List.map_map]
    congr 1
  have lc : lComp (iR2 (aCons (eV 2) (aCons (eV 1) aNil))) [none, some 0] (bN 0) cTrue (eOp oPlus (eV 1) (eTup (aCons (eV 0) aNil))) [some (.fz (TI b)), some (.fz (.int (w : Int))), some (.fz (.int (s : Int)))] = some ((List.range (w - s)).map fun i : Nat => TI (b ++ [((s + i : Nat) : Int)])) := by
    unfold lComp
    rw [r, Option.bind_some, if_pos hl]
    exact c
  have k1 : sSet 2 (eIf (bT (eV 0)) (eOp oPlus (eOp oIx (eV 0) (eUn oNeg (eC (.int 1)))) (eC (.int 1))) (eC (.int 0))) [some (.fz (TI b)), some (.fz (.int (w : Int))), none] = some (.nx, [some (.fz (TI b)), some (.fz (.int (w : Int))), some (.fz (.int (s : Int)))]) := by
    unfold sSet
    rw [e]
    rfl
  have k2 : sRet (eL (lComp (iR2 (aCons (eV 2) (aCons (eV 1) aNil))) [none, some 0] (bN 0) cTrue (eOp oPlus (eV 1) (eTup (aCons (eV 0) aNil))))) [some (.fz (TI b)), some (.fz (.int (w : Int))), some (.fz (.int (s : Int)))] = some (.rt (.lst ((List.range (w - s)).map fun i : Nat => TI (b ++ [((s + i : Nat) : Int)]))), [some (.fz (TI b)), some (.fz (.int (w : Int))), some (.fz (.int (s : Int)))]) := by
    unfold sRet
    rw [x_l lc]
    rfl
  have k3 : u_one_ware_more [some (.fz (TI b)), some (.fz (.int (w : Int))), none] = some (.rt (.lst ((List.range (w - s)).map fun i : Nat => TI (b ++ [((s + i : Nat) : Int)]))), [some (.fz (TI b)), some (.fz (.int (w : Int))), some (.fz (.int (s : Int)))]) := by
    unfold u_one_ware_more sSeq
    simp (config := {implicitDefEqProofs := false}) only [k1, Option.bind_some, k2]
  refine run_ok ?_
  have k4 : ([TI b, .int (w : Int)].map (fun d => some (B.fz d)) ++ List.replicate (3 - [TI b, D.int (w : Int)].length) none : Rho) = [some (.fz (TI b)), some (.fz (.int (w : Int))), none] := rfl
  rw [k4, k3, Option.map_some]
abbrev colsD (w : Nat) (rs : List Run) : D := .tup ((List.range w).map fun i : Nat => .int (col rs (i : Int)))
def isOft (rs : List Run) (L : Int) (k : Nat) : Bool := decide (L ≤ cM rs k)
theorem loop_eq (w : Nat) (rs : List Run) (L : Int) (hw : w ≤ 6) (hr : ∀ r ∈ rs, ∃ t, t < 64 ∧ r.2 = bitsN 12 t) (rc : List D → Option D) (m s0 : Nat) (hm : m < 2 ^ s0)
    (ih : ∀ i, s0 ≤ i → i < w → rc [setD (m + 2 ^ i), .int (cmk rs (m + 2 ^ i) : Int), pileD w rs, colsD w rs, .int L] = some (.lst ((oftD (isOft rs L) (w - (i + 1)) (i + 1) (m + 2 ^ i)).map (pairD rs)))) (x0 x5 : Option B) :
    ∀ (d s : Nat) (acc : List D) (b7 b8 : Option B), s0 ≤ s → s + d = w → acc.length + 2 ^ d ≤ 1000 → ∃ b7' b8',
      runFor (bN 7) (lb_pairs_from_1 rc) ((List.range d).map fun i : Nat => TI (bitsN 12 m ++ [((s + i : Nat) : Int)])) [x0, some (.fz (.int (cmk rs m : Int))), some (.fz (pileD w rs)), some (.fz (colsD w rs)), some (.fz (.int L)), x5, some (.ow acc), b7, b8] =
        some (.nx, [x0, some (.fz (.int (cmk rs m : Int))), some (.fz (pileD w rs)), some (.fz (colsD w rs)), some (.fz (.int L)), x5, some (.ow (acc ++ (oftG (isOft rs L) d s m).map (pairD rs))), b7', b8'])
  | 0, s, acc, b7, b8, _, _, _ => ⟨b7, b8, by simp [runFor, oftG]⟩
  | d + 1, s, acc, b7, b8, h1, h2, h3 => by
    have hms : m < 2 ^ s := Nat.lt_of_lt_of_le hm (Nat.pow_le_pow_right (by decide) h1)
    have e0 : bitsN 12 m ++ [((s + 0 : Nat) : Int)] = bitsN 12 (m + 2 ^ s) := (bits_grow s (by omega) m hms).symm
    have em := ih s h1 (by omega)
    rw [show w - (s + 1) = d by omega] at em
    have hlast : oIx (setD (m + 2 ^ s)) (.int (-1)) = some (.int (s : Int)) := by
      rw [setD, ← e0]; exact last_ix _ _
    have hcol : oIx (colsD w rs) (.int (s : Int)) = some (.int (cmk rs (2 ^ s) : Int)) := by
      rw [oIxT, atI_nat', List.getElem?_map, List.getElem?_range (by omega)]
      show some (D.int (col rs (s : Int))) = _
      rw [col_cmk s (by omega) rs hr]
    have hband : oBand (.int (cmk rs m : Int)) (.int (cmk rs (2 ^ s) : Int)) = some (.int (cmk rs (m + 2 ^ s) : Int)) := by
      rw [oBand_nat, meet_cmk s m (by omega) hms rs hr]
    have hlen := oftG_len (isOft rs L) d (s + 1) (m + 2 ^ s)
    have hl2 : (oftD (isOft rs L) d (s + 1) (m + 2 ^ s)).length ≤ 2 ^ d := by
      unfold oftD
      split
      · rw [List.length_cons]; exact hlen
      · exact Nat.zero_le _
    have hp2 : 2 ^ (d + 1) = 2 ^ d * 2 := Nat.pow_succ ..
    have hll : acc.length + ((oftD (isOft rs L) d (s + 1) (m + 2 ^ s)).map (pairD rs)).length ≤ lim := by rw [List.length_map]; show _ ≤ 1000000; omega
    have body : ∀ c7 c8 : Option B, lb_pairs_from_1 rc [x0, some (.fz (.int (cmk rs m : Int))), some (.fz (pileD w rs)), some (.fz (colsD w rs)), some (.fz (.int L)), x5, some (.ow acc), some (.fz (setD (m + 2 ^ s))), c8] =
        some (.nx, [x0, some (.fz (.int (cmk rs m : Int))), some (.fz (pileD w rs)), some (.fz (colsD w rs)), some (.fz (.int L)), x5, some (.ow (acc ++ (oftD (isOft rs L) d (s + 1) (m + 2 ^ s)).map (pairD rs))), some (.fz (setD (m + 2 ^ s))), some (.fz (.int (cmk rs (m + 2 ^ s) : Int)))]) := by
      intro c7 c8
      have a1 : eOp oBand (eV 1) (eOp oIx (eV 3) (eOp oIx (eV 7) (eUn oNeg (eC (.int 1))))) [x0, some (.fz (.int (cmk rs m : Int))), some (.fz (pileD w rs)), some (.fz (colsD w rs)), some (.fz (.int L)), x5, some (.ow acc), some (.fz (setD (m + 2 ^ s))), c8] = some (.int (cmk rs (m + 2 ^ s) : Int)) :=
        x_op (x_v rfl) (x_op (x_v rfl) (x_op (x_v rfl) (x_un x_c rfl) hlast) hcol) hband
      have a2 : eCall (callD 5 [] rc) (aCons (eV 7) (aCons (eV 8) (aCons (eV 2) (aCons (eV 3) (aCons (eV 4) aNil))))) [x0, some (.fz (.int (cmk rs m : Int))), some (.fz (pileD w rs)), some (.fz (colsD w rs)), some (.fz (.int L)), x5, some (.ow acc), some (.fz (setD (m + 2 ^ s))), some (.fz (.int (cmk rs (m + 2 ^ s) : Int)))] = some (.lst ((oftD (isOft rs L) d (s + 1) (m + 2 ^ s)).map (pairD rs))) :=
        x_cald (x_cons (x_v rfl) (x_cons (x_v rfl) (x_cons (x_v rfl) (x_cons (x_v rfl) (x_cons (x_v rfl) x_nil))))) rfl em
      unfold lb_pairs_from_1 sSeq sSet
      rw [a1]
      show sExt 6 _ [x0, some (.fz (.int (cmk rs m : Int))), some (.fz (pileD w rs)), some (.fz (colsD w rs)), some (.fz (.int L)), x5, some (.ow acc), some (.fz (setD (m + 2 ^ s))), some (.fz (.int (cmk rs (m + 2 ^ s) : Int)))] = _
      unfold sExt
      rw [a2]
      show (if acc.length + ((oftD (isOft rs L) d (s + 1) (m + 2 ^ s)).map (pairD rs)).length ≤ lim then _ else none) = _
      rw [if_pos hll]
      rfl
    obtain ⟨b7', b8', e⟩ := loop_eq w rs L hw hr rc m s0 hm ih x0 x5 d (s + 1) (acc ++ (oftD (isOft rs L) d (s + 1) (m + 2 ^ s)).map (pairD rs)) (some (.fz (setD (m + 2 ^ s)))) (some (.fz (.int (cmk rs (m + 2 ^ s) : Int)))) (by omega) (by omega)
      (by rw [List.length_append, List.length_map]; omega)
    refine ⟨b7', b8', ?_⟩
    rw [List.range_succ_eq_map, List.map_cons, e0, runFor_nx (b := bN 7) rfl (body none b8), List.map_map]
    have er : ((fun i : Nat => TI (bitsN 12 m ++ [((s + i : Nat) : Int)])) ∘ Nat.succ) = fun i : Nat => TI (bitsN 12 m ++ [((s + 1 + i : Nat) : Int)]) := by
      funext i
      show TI (bitsN 12 m ++ [((s + (i + 1) : Nat) : Int)]) = _
      rw [show s + (i + 1) = s + 1 + i by omega]
    rw [er, e, oftG]
    congr 3
    simp only [oftD, List.map_append, List.append_assoc]
theorem pf_eq (w : Nat) (rs : List Run) (L : Int) (hw : w ≤ 6) (hl : rs.length ≤ 1000) (hr : ∀ r ∈ rs, ∃ t, t < 64 ∧ r.2 = bitsN 12 t) : ∀ (n d s m : Nat), s + d = w → m < 2 ^ s → firstOf (bitsN 12 m) = (s : Int) → d < n →
    F_pairs_from n [setD m, .int (cmk rs m : Int), pileD w rs, colsD w rs, .int L] = some (.lst ((oftD (isOft rs L) d s m).map (pairD rs)))
  | 0, d, s, m, _, _, _, h => absurd h (Nat.not_lt_zero _)
  | n + 1, d, s, m, h1, h2, h3, h4 => by
    have bq := baskets_eq rs m hl
    show runFn 9 (u_pairs_from (F_pairs_from n)) _ = _
    by_cases hb : L ≤ cM rs m
    · have om := one_more_eq (bitsN 12 m) w s h3 (Nat.le_trans (bits_len 12 m) (by decide)) (by omega) (by omega)
      rw [show w - s = d by omega] at om
      have hlt : ¬ cM rs m < L := by omega
      have hp : 2 ^ d ≤ 64 := Nat.le_trans (Nat.pow_le_pow_right (by decide) (by omega : d ≤ 6)) (by decide)
      obtain ⟨b7, b8, e⟩ := loop_eq w rs L hw hr (F_pairs_from n) m s h2 (fun i hi hiw => by
        have hmi : m < 2 ^ i := Nat.lt_of_lt_of_le h2 (Nat.pow_le_pow_right (by decide) hi)
        refine pf_eq w rs L hw hl hr n (w - (i + 1)) (i + 1) (m + 2 ^ i) (by omega) (by rw [Nat.pow_succ]; omega) ?_ (by omega)
        rw [bits_grow i (by omega) m hmi, first_grow]) (some (.fz (setD m))) (some (.fz (.int (cM rs m)))) d s [pairD rs m] none none (Nat.le_refl _) h1 (by simp only [List.length_cons, List.length_nil]; omega)
      have ho : oftD (isOft rs L) d s m = m :: oftG (isOft rs L) d s m := by unfold oftD isOft; rw [decide_eq_true hb, if_pos rfl]
      rw [ho]
      (refine run_ok ?_; simp (config := {decide := true, implicitDefEqProofs := false}) only [u_pairs_from, sSeq, sSet, List.map_cons, List.map_nil, List.length_cons, List.length_nil, Nat.reduceAdd, Nat.reduceSub, List.replicate, List.cons_append, List.nil_append, List.set_cons_succ, List.set_cons_zero, eCall, aCons, eVs, eV0, eOp, eC, Option.bind_some, oIxT, atI_lit, List.getElem?_cons_succ, List.getElem?_cons_zero, aNil, Option.map_some, callD, List.append_nil, bq, if_true, sIf, bCmp, sRet, eL, lLst, sNil, sOwn, eTup, sFor, iSeq, sFrz, oLt_int, hlt, decide_false, isB, if_false, om, seqD, e, frzs, frz0])
    · have hlt : cM rs m < L := by omega
      have ho : oftD (isOft rs L) d s m = [] := by unfold oftD isOft; rw [decide_eq_false hb, if_neg Bool.false_ne_true]
      rw [ho]
      (refine run_ok ?_; simp (config := {decide := true, implicitDefEqProofs := false}) only [u_pairs_from, sSeq, sSet, List.map_cons, List.map_nil, List.length_cons, List.length_nil, Nat.reduceAdd, Nat.reduceSub, List.replicate, List.cons_append, List.nil_append, List.set_cons_succ, List.set_cons_zero, eCall, aCons, eVs, eV0, eOp, eC, Option.bind_some, oIxT, atI_lit, List.getElem?_cons_succ, List.getElem?_cons_zero, aNil, Option.map_some, callD, List.append_nil, bq, if_true, sIf, bCmp, sRet, eL, lLst, sNil, sOwn, eTup, sFor, iSeq, sFrz, oLt_int, hlt, decide_true, isB])
end My
set_option maxRecDepth 100000
set_option maxHeartbeats 1000000
namespace My
open PySem PyProof.Rows L2 DL
theorem grown_has (t : Nat) (ht : t < 64) : ∀ d s m, s + d ≤ 6 → m < 2 ^ s → ∀ k ∈ grownT d s m, t &&& k = k → t &&& m = m
  | 0, s, m, _, _, k, hk, e => by
    rw [grownT, List.mem_singleton] at hk
    rw [← hk]; exact e
  | d + 1, s, m, hd, hm, k, hk, e => by
    have e2 : 2 ^ (s + 1) = 2 ^ s * 2 := Nat.pow_succ ..
    rw [grownT, List.mem_append] at hk
    rcases hk with hk | hk
    · exact grown_has t ht d (s + 1) m (by omega) (by omega) k hk e
    · have h1 := grown_has t ht d (s + 1) (m + 2 ^ s) (by omega) (by omega) k hk e
      have g := and_grow t ht s (by omega) m hm
      rw [decide_eq_true h1] at g
      exact of_decide_eq_true (Bool.and_eq_true_iff.mp g.symm).1
theorem sum_mono (p q : Run → Bool) : ∀ rs : List Run, (∀ r ∈ rs, 0 ≤ r.1) → (∀ r ∈ rs, p r = true → q r = true) → ((rs.filter p).map (·.1)).sum ≤ ((rs.filter q).map (·.1)).sum
  | [], _, _ => Int.le_refl _
  | r :: rs, h, hpq => by
    have ih := sum_mono p q rs (fun x hx => h x (List.mem_cons_of_mem _ hx)) fun x hx => hpq x (List.mem_cons_of_mem _ hx)
    have h0 := h r List.mem_cons_self
    have h1 := hpq r List.mem_cons_self
    rw [List.filter_cons, List.filter_cons]
    cases hp : p r with
    | true =>
      rw [hp] at h1
      rw [if_pos rfl, if_pos (h1 rfl), List.map_cons, List.map_cons, List.sum_cons, List.sum_cons]; omega
    | false =>
      rw [if_neg Bool.false_ne_true]
      split
      · rw [List.map_cons, List.sum_cons]; omega
      · exact ih
theorem anti (rs : List Run) (L : Int) (h : RunsOk rs) (d s m : Nat) (hd : s + d ≤ 6) (hm : m < 2 ^ s) (hf : isOft rs L m = false) (k : Nat) (hk : k ∈ grownT d s m) : isOft rs L k = false := by
  have hc : cM rs k ≤ cM rs m := sum_mono (fun r => has r k) (fun r => has r m) rs (fun r hr => (h.2 r hr).2.2.1) fun r hr hb => by
    obtain ⟨t, ht, e⟩ := (h.2 r hr).2.2.2
    have hb' : has r k = true := hb
    show has r m = true
    rw [has_t ht e] at hb' ⊢
    exact decide_eq_true (grown_has t ht d s m hd hm k hk (of_decide_eq_true hb'))
  unfold isOft at hf ⊢
  have := of_decide_eq_false hf
  exact decide_eq_false (by omega)
theorem meet_eq (self : D) (w : Nat) (rs : List Run) (L : Int) (hw : w ≤ 6) (h : RunsOk rs) : f_Meeting_often [self, pileD w rs, .int L] = some (.tup ((oft w rs L).map (pairD rs))) := by
  have hr : ∀ r ∈ rs, ∃ t, t < 64 ∧ r.2 = bitsN 12 t := fun r hr => (h.2 r hr).2.2.2
  have ce := columns_eq w rs (by omega) h.1
  have pe := pf_eq w rs L hw h.1 hr 16 w 0 0 (by omega) (by decide) (by decide) (by omega)
  have h2 := pow64 hw
  have hp := (oftD_perm (isOft rs L) (anti rs L h) w 0 0 (by omega) (by decide)).trans ((grown_range w (by omega)).filter (isOft rs L))
  have lt64 : ∀ k ∈ (List.range (2 ^ w)).filter (isOft rs L), k < 64 := fun k hk => by
    have := List.mem_range.mp (List.mem_filter.mp hk).1
    omega
  have io := in_order_f rs (oftD (isOft rs L) w 0 0) (hp.nodup_iff.mpr (List.nodup_range.filter _)) fun k hk => lt64 k (hp.mem_iff.mp hk)
  rw [sortM_same hp lt64, sortM_filter _ _ (fun k hk => by have := List.mem_range.mp hk; omega)] at io
  have sh := shl_pow rs.length h.1
  have cz := cmk_zero rs hr
  have cz' : (2 : Int) ^ rs.length - 1 = (cmk rs 0 : Int) := by
    have : ((cmk rs 0 + 1 : Nat) : Int) = ((2 ^ rs.length : Nat) : Int) := by rw [cz]
    have e3 : ((2 ^ rs.length : Nat) : Int) = (2 : Int) ^ rs.length := Int.natCast_pow 2 _
    omega
  have pe' : f_pairs_from [.tup [], .int (cmk rs 0 : Int), pileD w rs, colsD w rs, .int L] = some (.lst ((oftD (isOft rs L) w 0 0).map (pairD rs))) := pe
  have os : oSub (.int ((2 : Int) ^ rs.length)) (.int 1) = some (.int (cmk rs 0 : Int)) := by
    rw [← cz']; rfl
  (refine run_ok ?_; simp (config := {decide := true, implicitDefEqProofs := false}) only [u_Meeting_often, sSeq, sSet, List.map_cons, List.map_nil, List.length_cons, List.length_nil, Nat.reduceAdd, Nat.reduceSub, List.replicate, List.cons_append, List.nil_append, List.set_cons_succ, List.set_cons_zero, eOp, eC, eCall, aCons, eVs, eV0, Option.bind_some, oIxT, atI_lit, List.getElem?_cons_succ, List.getElem?_cons_zero, aNil, Option.map_some, oLenT, List.length_map, sh, os, sRet, eTup, if_true, callD, List.append_nil, ce, pe', io])
  rfl
end My
set_option maxRecDepth 100000
set_option maxHeartbeats 1000000
namespace My
open PySem PyProof.Rows L2 DL
def othR : List Run := [(3, [0]), (1, [0, 1]), (2, [])]
theorem oth_ok : RunsOk othR := by
  refine ⟨by decide, fun r hr => ?_⟩
  simp only [othR, List.mem_cons, List.not_mem_nil, or_false] at hr
  rcases hr with rfl | rfl | rfl
  · exact ⟨by decide, by decide, by decide, 1, by decide, by decide⟩
  · exact ⟨by decide, by decide, by decide, 3, by decide, by decide⟩
  · exact ⟨by decide, by decide, by decide, 0, by decide, by decide⟩
def nilR : List Run := [(5, []), (2, [])]
theorem nilR_ok : RunsOk nilR := by
  refine ⟨by decide, fun r hr => ?_⟩
  simp only [nilR, List.mem_cons, List.not_mem_nil, or_false] at hr
  rcases hr with rfl | rfl <;> exact ⟨by decide, by decide, by decide, 0, by decide, by decide⟩
theorem none_ok : RunsOk [] := ⟨by decide, fun r hr => by cases hr⟩
abbrev othD : D := .tup [.int 2, .tup [.tup [.int 3, .tup [.int 0]], .tup [.int 1, .tup [.int 0, .int 1]], .tup [.int 2, .tup []]]]
abbrev nilD : D := .tup [.int 0, .tup [.tup [.int 5, .tup []], .tup [.int 2, .tup []]]]
theorem way_oth2 : f_Meeting_often [.obj "Meeting", othD, .int 2] = some (.tup [.tup [.tup [], .int 6], .tup [.tup [.int 0], .int 4]]) := by
  have := meet_eq (.obj "Meeting") 2 othR 2 (by decide) oth_ok
  have e : oft 2 othR 2 = [0, 1] := by decide
  rw [e] at this
  have c0 : cM othR 0 = 6 := by decide
  have c1 : cM othR 1 = 4 := by decide
  simp only [List.map_cons, List.map_nil, pairD, c0, c1] at this
  exact this
theorem way_oth7 : f_Meeting_often [.obj "Meeting", othD, .int 7] = some (.tup []) := by
  have := meet_eq (.obj "Meeting") 2 othR 7 (by decide) oth_ok
  have e : oft 2 othR 7 = [] := by decide
  rw [e] at this
  exact this
theorem way_none : f_Meeting_often [.obj "Meeting", .tup [.int 0, .tup []], .int 1] = some (.tup []) := by
  have := meet_eq (.obj "Meeting") 0 [] 1 (by decide) none_ok
  have e : oft 0 [] 1 = [] := by decide
  rw [e] at this
  exact this
theorem way_nil : f_Meeting_often [.obj "Meeting", nilD, .int 7] = some (.tup [.tup [.tup [], .int 7]]) := by
  have := meet_eq (.obj "Meeting") 0 nilR 7 (by decide) nilR_ok
  have e : oft 0 nilR 7 = [0] := by decide
  rw [e] at this
  have c0 : cM nilR 0 = 7 := by decide
  simp only [List.map_cons, List.map_nil, pairD, c0] at this
  exact this
theorem same_oth : f_law_same [.tup [.tup [.tup [], .int 6], .tup [.tup [.int 0], .int 4]], .lst [.tup [.tup [], .int 6], .tup [.tup [.int 0], .int 4]]] = some (.bl true) := same_eq' [([], 6), ([0], 4)]
theorem same_nil : f_law_same [.tup [.tup [.tup [], .int 7]], .lst [.tup [.tup [], .int 7]]] = some (.bl true) := same_eq' [([], 7)]
theorem ne_nil : oNe2 (.tup []) (.tup []) = some (.bl false) := rfl
theorem due_comp (w : Nat) (rs : List Run) (L : Int) : runComp (bN 0) (bCmp oGe (eOp oIx (eV 2) (eV 0)) (eV 1)) (eV 0) [none, some (.fz (.int L)), some (.fz (.lst ((List.range (2 ^ w)).map fun i : Nat => .int (cM rs i))))] (rangeD 0 (2 ^ w)) =
    some (((List.range (2 ^ w)).filter fun k => decide (L ≤ cM rs k)).map fun k : Nat => .int (k : Int)) := by
  have key : ∀ l : List Nat, (∀ k ∈ l, k < 2 ^ w) → runComp (bN 0) (bCmp oGe (eOp oIx (eV 2) (eV 0)) (eV 1)) (eV 0) [none, some (.fz (.int L)), some (.fz (.lst ((List.range (2 ^ w)).map fun i : Nat => .int (cM rs i))))] (l.map fun k : Nat => .int (k : Int)) =
      some ((l.filter fun k => decide (L ≤ cM rs k)).map fun k : Nat => .int (k : Int)) := by
    intro l hl
    induction l with
    | nil => rfl
    | cons k l ih =>
      have ih' := ih fun x hx => hl x (List.mem_cons_of_mem _ hx)
      have hi : atI ((List.range (2 ^ w)).map fun i : Nat => D.int (cM rs i)) (k : Int) = some (.int (cM rs k)) := by
        rw [atI_nat', List.getElem?_map, List.getElem?_range (hl k List.mem_cons_self)]; rfl
      rw [List.map_cons]
      by_cases hb : L ≤ cM rs k
      · simp (config := {decide := true, implicitDefEqProofs := false}) only [runComp, bN, List.set_cons_zero, bCmp, eOp, ih', Option.map_some, Option.bind_some, eVs, eV0, oIxL, hi, oGe_int, hb, decide_true, isB, if_true, List.filter_cons, List.map_cons]
      · simp (config := {decide := true, implicitDefEqProofs := false}) only [runComp, bN, List.set_cons_zero, bCmp, eOp, ih', Option.map_some, Option.bind_some, eVs, eV0, oIxL, hi, oGe_int, hb, decide_false, isB, if_false, List.filter_cons, Bool.false_eq_true]
  rw [rangeD0]
  exact key _ fun k hk => List.mem_range.mp hk
theorem law_true : ∀ ns : List Int, ns.length ≤ 63 → f_law [.lst (ns.map .int)] = some (.bl true) := by
  intro ns hl
  obtain ⟨c0, ec⟩ := law_cell_ok ns 0
  rw [show ((0 : Nat) : Int) = 0 from rfl] at ec
  obtain ⟨w, hw, em⟩ := mod_nat (x := c0 / 2) (n := 7) (by decide)
  have hw6 : w ≤ 6 := by omega
  rw [show ((7 : Nat) : Int) = 7 from rfl] at em
  obtain ⟨rs, ep, hrs⟩ := law_pile_ok ns hl w (by omega) 61 (by decide)
  rw [show ((61 : Nat) : Int) = 61 from rfl] at ep
  have h2 := pow64 hw6
  have hc := law_counts_eq w rs hrs hw6
  obtain ⟨L, hL0⟩ := law_least_ok ns ((List.range (2 ^ w)).map fun i : Nat => cM rs i) (by rw [List.length_map, List.length_range]; exact Nat.pow_pos (by decide)) (by rw [List.length_map, List.length_range]; omega)
  rw [List.map_map] at hL0
  have hL1 : f_law_least [.lst (ns.map .int), .lst ((List.range (2 ^ w)).map fun i : Nat => .int (cM rs i))] = some (.int L) := hL0
  have dc := due_comp w rs L
  have hlr : (rangeD 0 (2 ^ w)).length ≤ lim := by rw [rangeD_len]; show _ ≤ 1000000; omega
  have pe := pairs_eq w rs hw6 ((List.range (2 ^ w)).filter fun k => decide (L ≤ cM rs k)) (fun k hk => List.mem_range.mp (List.mem_filter.mp hk).1) (Nat.le_trans (List.length_filter_le _ _) (by rw [List.length_range]; omega))
  rw [sortM_filter _ _ (fun k hk => by have := List.mem_range.mp hk; omega)] at pe
  have pe' : f_law_pairs [.lst (((List.range (2 ^ w)).filter fun k => decide (L ≤ cM rs k)).map fun k : Nat => .int (k : Int)), .lst ((List.range (2 ^ w)).map fun i : Nat => .int (cM rs i))] = some (.lst ((oft w rs L).map (pairD rs))) := pe
  have we := meet_eq (.obj "Meeting") w rs L hw6 hrs
  have sp := same_pairs rs (oft w rs L)
  have hr : iR1 (aCons (eCall oLen (aCons (eV 3) aNil)) aNil) [some (.fz (.lst (ns.map .int))), some (.fz (.int (w : Int))), some (.fz (pileD w rs)), some (.fz (.lst ((List.range (2 ^ w)).map fun i : Nat => .int (cM rs i)))), some (.fz (.int L)), none, none, none] = some (rangeD 0 (2 ^ w)) := by
    have ha : aCons (eCall oLen (aCons (eV 3) aNil)) aNil [some (.fz (.lst (ns.map .int))), some (.fz (.int (w : Int))), some (.fz (pileD w rs)), some (.fz (.lst ((List.range (2 ^ w)).map fun i : Nat => .int (cM rs i)))), some (.fz (.int L)), none, none, none] = some [.int ((2 ^ w : Nat) : Int)] := by
      refine x_cons (x_call (x_cons (x_v rfl) x_nil) ?_) x_nil
      rw [oLenL, List.length_map, List.length_range]
    have h3 : (0 : Int) ≤ ((2 ^ w : Nat) : Int) := Int.natCast_nonneg _
    have h4 : ((2 ^ w : Nat) : Int) ≤ 64 := by exact_mod_cast h2
    rw [iR1_int _ _ _ ha (Int.le_trans (by decide) h3) (Int.lt_of_le_of_lt h4 (by decide)), Int.toNat_natCast]
  have e7 := way_oth2
  have e8 := way_oth7
  have e9 := way_none
  have e10 := way_nil
  (refine run_ok ?_; simp (config := {decide := true, implicitDefEqProofs := false}) only [u_law, sSeq, sSet, List.map_cons, List.map_nil, List.length_cons, List.length_nil, Nat.reduceAdd, Nat.reduceSub, List.replicate, List.cons_append, List.nil_append, List.set_cons_succ, List.set_cons_zero, eOp, eCall, aCons, eV0, eC, aNil, Option.map_some, Option.bind_some, callD, List.append_nil, ec, if_true, Int.reduceLT, oDiv_int, em, eL, lComp, capR, fzOf, Option.bind_none, sIf, bNot, bT, eMet, Nat.reduceEqDiff, sRet, sNil, eTup, bOr, lLst, bCmp, eVs, ep, hc, hL1, hr, List.getElem?_cons_succ, List.getElem?_cons_zero, Option.join_some, hlr, dc, pe', we, sp, truD, Bool.not_true, if_false, e7, same_oth, e9, ne_nil, isB, e10, same_nil, e8])
end My
set_option maxHeartbeats 4000000
namespace My
open PySem PySem.Spec PyProof.Rows L2 DL
theorem ln1 {s : Shared} {fd : FuncData} {ps : List Str} (h : ∀ a0, BindsTo s fd ⟨[a0], []⟩ (ps.zip ([a0] ++ []))) : ∀ us : List Value, (us ++ []).length = 1 → BindsTo s fd ⟨us, []⟩ (ps.zip (us ++ []))
  | [a0], _ => h a0
theorem ln2 {s : Shared} {fd : FuncData} {ps : List Str} (h : ∀ a0 a1, BindsTo s fd ⟨[a0, a1], []⟩ (ps.zip ([a0, a1] ++ []))) : ∀ us : List Value, (us ++ []).length = 2 → BindsTo s fd ⟨us, []⟩ (ps.zip (us ++ []))
  | [a0, a1], _ => h a0 a1
theorem ln3 {s : Shared} {fd : FuncData} {ps : List Str} (h : ∀ a0 a1 a2, BindsTo s fd ⟨[a0, a1, a2], []⟩ (ps.zip ([a0, a1, a2] ++ []))) : ∀ us : List Value, (us ++ []).length = 3 → BindsTo s fd ⟨us, []⟩ (ps.zip (us ++ []))
  | [a0, a1, a2], _ => h a0 a1 a2
theorem ln5 {s : Shared} {fd : FuncData} {ps : List Str} (h : ∀ a0 a1 a2 a3 a4, BindsTo s fd ⟨[a0, a1, a2, a3, a4], []⟩ (ps.zip ([a0, a1, a2, a3, a4] ++ []))) : ∀ us : List Value, (us ++ []).length = 5 → BindsTo s fd ⟨us, []⟩ (ps.zip (us ++ []))
  | [a0, a1, a2, a3, a4], _ => h a0 a1 a2 a3 a4
set_option maxHeartbeats 4000000 in
theorem all_mk {q : Program} {l : PySem.W.OpenLaw} {w : World} {K : Frag} {h : Heap} {mg : Str → Option Value} {fa : Addr} (X : K.In h) (G : h.Ns mainGlobals mg) (hfa : mg "law" = some (.ref fa)) (hm : ∀ ns : List Int, ns.length ≤ 63 → f_law [.lst (ns.map .int)] = some (.bl true))
    {C_Meeting : Addr}
    (x_Meeting : PySem.W.nsIn K mainGlobals "Meeting" = some (some (.ref C_Meeting)))
    (mk_Meeting : PySem.W.makesIn K C_Meeting = true)
    (in_Meeting : PySem.W.findIn K (.ref C_Meeting) "__init__" = some (some (.builtin "object.__init__")))
    (kp_Meeting : PySem.W.keepIn K (.ref C_Meeting) = true)
    (pg_Meeting : PySem.W.plainGet K C_Meeting Str.empty = true)
    (hd_Meeting : PySem.W.hasDictIn K C_Meeting = true)
    (po_Meeting : PySem.W.plainOver K C_Meeting = true)
    (sa_Meeting : PySem.W.findIn K (.ref C_Meeting) "__setattr__" = some (some (.builtin "object.__setattr__")))
    (cg_Meeting : PySem.W.plainGet K C_Meeting "__class__" = true)
    (cc_Meeting : PySem.W.findIn K (.ref C_Meeting) "__class__" = some (some (.builtin "object.__class__")))
    (cs_Meeting : PySem.W.specialIn K (.builtin "object.__class__") "__get__" = some (some (.builtin "getset_descriptor.__get__")))
    (ct_Meeting : PySem.W.takesIn K (.builtin "object.__class__") = some true)
    (cm_Meeting : PySem.W.mroIn K C_Meeting (.type "object") = some true)
    (ciint_Meeting : PySem.W.subIn K (.ref C_Meeting) (.type "int") = some false)
    (cibool_Meeting : PySem.W.subIn K (.ref C_Meeting) (.type "bool") = some false)
    (cituple_Meeting : PySem.W.subIn K (.ref C_Meeting) (.type "tuple") = some false)
    (cilist_Meeting : PySem.W.subIn K (.ref C_Meeting) (.type "list") = some false)
    (cistr_Meeting : PySem.W.subIn K (.ref C_Meeting) (.type "str") = some false)
    (cidict_Meeting : PySem.W.subIn K (.ref C_Meeting) (.type "dict") = some false)
    {fa_law_mixed : Addr} {od_law_mixed an_law_mixed : Option Addr} {sl_law_mixed : Array (Option Value)} {oc_law_mixed kV_law_mixed dc_law_mixed pm_law_mixed cd_law_mixed ct_law_mixed : Value}
    (x_law_mixed : PySem.W.nsIn K mainGlobals "_law_mixed" = some (some (.ref fa_law_mixed)))
    (l_law_mixed : K.lookup fa_law_mixed = some ⟨oc_law_mixed, od_law_mixed, .func (PySem.W.fnOf "_law_mixed" "_law_mixed" (defArgs s_law_mixed) (defBody s_law_mixed) (defScope s_law_mixed) .none kV_law_mixed dc_law_mixed pm_law_mixed an_law_mixed cd_law_mixed ct_law_mixed), sl_law_mixed⟩)
    (q_law_mixed : PySem.W.codeIn K cd_law_mixed "_law_mixed" = true) (k_law_mixed : PySem.W.keepIn K (.ref fa_law_mixed) = true)
    {fa_law_cell : Addr} {od_law_cell an_law_cell : Option Addr} {sl_law_cell : Array (Option Value)} {oc_law_cell kV_law_cell dc_law_cell pm_law_cell cd_law_cell ct_law_cell : Value}
    (x_law_cell : PySem.W.nsIn K mainGlobals "_law_cell" = some (some (.ref fa_law_cell)))
    (l_law_cell : K.lookup fa_law_cell = some ⟨oc_law_cell, od_law_cell, .func (PySem.W.fnOf "_law_cell" "_law_cell" (defArgs s_law_cell) (defBody s_law_cell) (defScope s_law_cell) .none kV_law_cell dc_law_cell pm_law_cell an_law_cell cd_law_cell ct_law_cell), sl_law_cell⟩)
    (q_law_cell : PySem.W.codeIn K cd_law_cell "_law_cell" = true) (k_law_cell : PySem.W.keepIn K (.ref fa_law_cell) = true)
    {fa_law_of_mark : Addr} {od_law_of_mark an_law_of_mark : Option Addr} {sl_law_of_mark : Array (Option Value)} {oc_law_of_mark kV_law_of_mark dc_law_of_mark pm_law_of_mark cd_law_of_mark ct_law_of_mark : Value}
    (x_law_of_mark : PySem.W.nsIn K mainGlobals "_law_of_mark" = some (some (.ref fa_law_of_mark)))
    (l_law_of_mark : K.lookup fa_law_of_mark = some ⟨oc_law_of_mark, od_law_of_mark, .func (PySem.W.fnOf "_law_of_mark" "_law_of_mark" (defArgs s_law_of_mark) (defBody s_law_of_mark) (defScope s_law_of_mark) .none kV_law_of_mark dc_law_of_mark pm_law_of_mark an_law_of_mark cd_law_of_mark ct_law_of_mark), sl_law_of_mark⟩)
    (q_law_of_mark : PySem.W.codeIn K cd_law_of_mark "_law_of_mark" = true) (k_law_of_mark : PySem.W.keepIn K (.ref fa_law_of_mark) = true)
    {fa_law_run : Addr} {od_law_run an_law_run : Option Addr} {sl_law_run : Array (Option Value)} {oc_law_run kV_law_run dc_law_run pm_law_run cd_law_run ct_law_run : Value}
    (x_law_run : PySem.W.nsIn K mainGlobals "_law_run" = some (some (.ref fa_law_run)))
    (l_law_run : K.lookup fa_law_run = some ⟨oc_law_run, od_law_run, .func (PySem.W.fnOf "_law_run" "_law_run" (defArgs s_law_run) (defBody s_law_run) (defScope s_law_run) .none kV_law_run dc_law_run pm_law_run an_law_run cd_law_run ct_law_run), sl_law_run⟩)
    (q_law_run : PySem.W.codeIn K cd_law_run "_law_run" = true) (k_law_run : PySem.W.keepIn K (.ref fa_law_run) = true)
    {fa_law_pile : Addr} {od_law_pile an_law_pile : Option Addr} {sl_law_pile : Array (Option Value)} {oc_law_pile kV_law_pile dc_law_pile pm_law_pile cd_law_pile ct_law_pile : Value}
    (x_law_pile : PySem.W.nsIn K mainGlobals "_law_pile" = some (some (.ref fa_law_pile)))
    (l_law_pile : K.lookup fa_law_pile = some ⟨oc_law_pile, od_law_pile, .func (PySem.W.fnOf "_law_pile" "_law_pile" (defArgs s_law_pile) (defBody s_law_pile) (defScope s_law_pile) .none kV_law_pile dc_law_pile pm_law_pile an_law_pile cd_law_pile ct_law_pile), sl_law_pile⟩)
    (q_law_pile : PySem.W.codeIn K cd_law_pile "_law_pile" = true) (k_law_pile : PySem.W.keepIn K (.ref fa_law_pile) = true)
    {fa_law_marks : Addr} {od_law_marks an_law_marks : Option Addr} {sl_law_marks : Array (Option Value)} {oc_law_marks kV_law_marks dc_law_marks pm_law_marks cd_law_marks ct_law_marks : Value}
    (x_law_marks : PySem.W.nsIn K mainGlobals "_law_marks" = some (some (.ref fa_law_marks)))
    (l_law_marks : K.lookup fa_law_marks = some ⟨oc_law_marks, od_law_marks, .func (PySem.W.fnOf "_law_marks" "_law_marks" (defArgs s_law_marks) (defBody s_law_marks) (defScope s_law_marks) .none kV_law_marks dc_law_marks pm_law_marks an_law_marks cd_law_marks ct_law_marks), sl_law_marks⟩)
    (q_law_marks : PySem.W.codeIn K cd_law_marks "_law_marks" = true) (k_law_marks : PySem.W.keepIn K (.ref fa_law_marks) = true)
    {fa_law_counts : Addr} {od_law_counts an_law_counts : Option Addr} {sl_law_counts : Array (Option Value)} {oc_law_counts kV_law_counts dc_law_counts pm_law_counts cd_law_counts ct_law_counts : Value}
    (x_law_counts : PySem.W.nsIn K mainGlobals "_law_counts" = some (some (.ref fa_law_counts)))
    (l_law_counts : K.lookup fa_law_counts = some ⟨oc_law_counts, od_law_counts, .func (PySem.W.fnOf "_law_counts" "_law_counts" (defArgs s_law_counts) (defBody s_law_counts) (defScope s_law_counts) .none kV_law_counts dc_law_counts pm_law_counts an_law_counts cd_law_counts ct_law_counts), sl_law_counts⟩)
    (q_law_counts : PySem.W.codeIn K cd_law_counts "_law_counts" = true) (k_law_counts : PySem.W.keepIn K (.ref fa_law_counts) = true)
    {fa_law_least : Addr} {od_law_least an_law_least : Option Addr} {sl_law_least : Array (Option Value)} {oc_law_least kV_law_least dc_law_least pm_law_least cd_law_least ct_law_least : Value}
    (x_law_least : PySem.W.nsIn K mainGlobals "_law_least" = some (some (.ref fa_law_least)))
    (l_law_least : K.lookup fa_law_least = some ⟨oc_law_least, od_law_least, .func (PySem.W.fnOf "_law_least" "_law_least" (defArgs s_law_least) (defBody s_law_least) (defScope s_law_least) .none kV_law_least dc_law_least pm_law_least an_law_least cd_law_least ct_law_least), sl_law_least⟩)
    (q_law_least : PySem.W.codeIn K cd_law_least "_law_least" = true) (k_law_least : PySem.W.keepIn K (.ref fa_law_least) = true)
    {fa_law_in_order : Addr} {od_law_in_order an_law_in_order : Option Addr} {sl_law_in_order : Array (Option Value)} {oc_law_in_order kV_law_in_order dc_law_in_order pm_law_in_order cd_law_in_order ct_law_in_order : Value}
    (x_law_in_order : PySem.W.nsIn K mainGlobals "_law_in_order" = some (some (.ref fa_law_in_order)))
    (l_law_in_order : K.lookup fa_law_in_order = some ⟨oc_law_in_order, od_law_in_order, .func (PySem.W.fnOf "_law_in_order" "_law_in_order" (defArgs s_law_in_order) (defBody s_law_in_order) (defScope s_law_in_order) .none kV_law_in_order dc_law_in_order pm_law_in_order an_law_in_order cd_law_in_order ct_law_in_order), sl_law_in_order⟩)
    (q_law_in_order : PySem.W.codeIn K cd_law_in_order "_law_in_order" = true) (k_law_in_order : PySem.W.keepIn K (.ref fa_law_in_order) = true)
    {fa_law_pairs : Addr} {od_law_pairs an_law_pairs : Option Addr} {sl_law_pairs : Array (Option Value)} {oc_law_pairs kV_law_pairs dc_law_pairs pm_law_pairs cd_law_pairs ct_law_pairs : Value}
    (x_law_pairs : PySem.W.nsIn K mainGlobals "_law_pairs" = some (some (.ref fa_law_pairs)))
    (l_law_pairs : K.lookup fa_law_pairs = some ⟨oc_law_pairs, od_law_pairs, .func (PySem.W.fnOf "_law_pairs" "_law_pairs" (defArgs s_law_pairs) (defBody s_law_pairs) (defScope s_law_pairs) .none kV_law_pairs dc_law_pairs pm_law_pairs an_law_pairs cd_law_pairs ct_law_pairs), sl_law_pairs⟩)
    (q_law_pairs : PySem.W.codeIn K cd_law_pairs "_law_pairs" = true) (k_law_pairs : PySem.W.keepIn K (.ref fa_law_pairs) = true)
    {fa_law_whole : Addr} {od_law_whole an_law_whole : Option Addr} {sl_law_whole : Array (Option Value)} {oc_law_whole kV_law_whole dc_law_whole pm_law_whole cd_law_whole ct_law_whole : Value}
    (x_law_whole : PySem.W.nsIn K mainGlobals "_law_whole" = some (some (.ref fa_law_whole)))
    (l_law_whole : K.lookup fa_law_whole = some ⟨oc_law_whole, od_law_whole, .func (PySem.W.fnOf "_law_whole" "_law_whole" (defArgs s_law_whole) (defBody s_law_whole) (defScope s_law_whole) .none kV_law_whole dc_law_whole pm_law_whole an_law_whole cd_law_whole ct_law_whole), sl_law_whole⟩)
    (q_law_whole : PySem.W.codeIn K cd_law_whole "_law_whole" = true) (k_law_whole : PySem.W.keepIn K (.ref fa_law_whole) = true)
    {fa_law_same : Addr} {od_law_same an_law_same : Option Addr} {sl_law_same : Array (Option Value)} {oc_law_same kV_law_same dc_law_same pm_law_same cd_law_same ct_law_same : Value}
    (x_law_same : PySem.W.nsIn K mainGlobals "_law_same" = some (some (.ref fa_law_same)))
    (l_law_same : K.lookup fa_law_same = some ⟨oc_law_same, od_law_same, .func (PySem.W.fnOf "_law_same" "_law_same" (defArgs s_law_same) (defBody s_law_same) (defScope s_law_same) .none kV_law_same dc_law_same pm_law_same an_law_same cd_law_same ct_law_same), sl_law_same⟩)
    (q_law_same : PySem.W.codeIn K cd_law_same "_law_same" = true) (k_law_same : PySem.W.keepIn K (.ref fa_law_same) = true)
    {fa_order_of : Addr} {od_order_of an_order_of : Option Addr} {sl_order_of : Array (Option Value)} {oc_order_of kV_order_of dc_order_of pm_order_of cd_order_of ct_order_of : Value}
    (x_order_of : PySem.W.nsIn K mainGlobals "order_of" = some (some (.ref fa_order_of)))
    (l_order_of : K.lookup fa_order_of = some ⟨oc_order_of, od_order_of, .func (PySem.W.fnOf "order_of" "order_of" (defArgs s_order_of) (defBody s_order_of) (defScope s_order_of) .none kV_order_of dc_order_of pm_order_of an_order_of cd_order_of ct_order_of), sl_order_of⟩)
    (q_order_of : PySem.W.codeIn K cd_order_of "order_of" = true) (k_order_of : PySem.W.keepIn K (.ref fa_order_of) = true)
    {fa_in_order : Addr} {od_in_order an_in_order : Option Addr} {sl_in_order : Array (Option Value)} {oc_in_order kV_in_order dc_in_order pm_in_order ct_in_order : Value}
    {cL_in_order TL_in_order : Addr}
    (x_in_order : PySem.W.nsIn K mainGlobals "in_order" = some (some (.ref fa_in_order)))
    (l_in_order : K.lookup fa_in_order = some ⟨oc_in_order, od_in_order, .func (PySem.W.fnOf "in_order" "in_order" (defArgs s_in_order) (defBody s_in_order) (defScope s_in_order) .none kV_in_order dc_in_order pm_in_order an_in_order (.ref cL_in_order) ct_in_order), sl_in_order⟩)
    (q_in_order : PySem.W.codeIn K (.ref cL_in_order) "in_order" = true) (k_in_order : PySem.W.keepIn K (.ref fa_in_order) = true)
    {oL_in_order : Obj} (o_in_order : K.lookup cL_in_order = some oL_in_order) (p_in_order : tabOf oL_in_order = some TL_in_order) (hh_in_order : PySem.W.codeHdIn [(cL_in_order, oL_in_order)] cL_in_order TL_in_order = true) (nl_in_order : K.lookup TL_in_order = none) (r_in_order : ((recsOf q).find? (fun e => e.name == ("in_order" : Str))).isSome = true)
    {fa_column : Addr} {od_column an_column : Option Addr} {sl_column : Array (Option Value)} {oc_column kV_column dc_column pm_column cd_column ct_column : Value}
    (x_column : PySem.W.nsIn K mainGlobals "column" = some (some (.ref fa_column)))
    (l_column : K.lookup fa_column = some ⟨oc_column, od_column, .func (PySem.W.fnOf "column" "column" (defArgs s_column) (defBody s_column) (defScope s_column) .none kV_column dc_column pm_column an_column cd_column ct_column), sl_column⟩)
    (q_column : PySem.W.codeIn K cd_column "column" = true) (k_column : PySem.W.keepIn K (.ref fa_column) = true)
    {fa_baskets_in : Addr} {od_baskets_in an_baskets_in : Option Addr} {sl_baskets_in : Array (Option Value)} {oc_baskets_in kV_baskets_in dc_baskets_in pm_baskets_in cd_baskets_in ct_baskets_in : Value}
    (x_baskets_in : PySem.W.nsIn K mainGlobals "baskets_in" = some (some (.ref fa_baskets_in)))
    (l_baskets_in : K.lookup fa_baskets_in = some ⟨oc_baskets_in, od_baskets_in, .func (PySem.W.fnOf "baskets_in" "baskets_in" (defArgs s_baskets_in) (defBody s_baskets_in) (defScope s_baskets_in) .none kV_baskets_in dc_baskets_in pm_baskets_in an_baskets_in cd_baskets_in ct_baskets_in), sl_baskets_in⟩)
    (q_baskets_in : PySem.W.codeIn K cd_baskets_in "baskets_in" = true) (k_baskets_in : PySem.W.keepIn K (.ref fa_baskets_in) = true)
    {fa_one_ware_more : Addr} {od_one_ware_more an_one_ware_more : Option Addr} {sl_one_ware_more : Array (Option Value)} {oc_one_ware_more kV_one_ware_more dc_one_ware_more pm_one_ware_more cd_one_ware_more ct_one_ware_more : Value}
    (x_one_ware_more : PySem.W.nsIn K mainGlobals "one_ware_more" = some (some (.ref fa_one_ware_more)))
    (l_one_ware_more : K.lookup fa_one_ware_more = some ⟨oc_one_ware_more, od_one_ware_more, .func (PySem.W.fnOf "one_ware_more" "one_ware_more" (defArgs s_one_ware_more) (defBody s_one_ware_more) (defScope s_one_ware_more) .none kV_one_ware_more dc_one_ware_more pm_one_ware_more an_one_ware_more cd_one_ware_more ct_one_ware_more), sl_one_ware_more⟩)
    (q_one_ware_more : PySem.W.codeIn K cd_one_ware_more "one_ware_more" = true) (k_one_ware_more : PySem.W.keepIn K (.ref fa_one_ware_more) = true)
    {fa_pairs_from : Addr} {od_pairs_from an_pairs_from : Option Addr} {sl_pairs_from : Array (Option Value)} {oc_pairs_from kV_pairs_from dc_pairs_from pm_pairs_from cd_pairs_from ct_pairs_from : Value}
    (x_pairs_from : PySem.W.nsIn K mainGlobals "pairs_from" = some (some (.ref fa_pairs_from)))
    (l_pairs_from : K.lookup fa_pairs_from = some ⟨oc_pairs_from, od_pairs_from, .func (PySem.W.fnOf "pairs_from" "pairs_from" (defArgs s_pairs_from) (defBody s_pairs_from) (defScope s_pairs_from) .none kV_pairs_from dc_pairs_from pm_pairs_from an_pairs_from cd_pairs_from ct_pairs_from), sl_pairs_from⟩)
    (q_pairs_from : PySem.W.codeIn K cd_pairs_from "pairs_from" = true) (k_pairs_from : PySem.W.keepIn K (.ref fa_pairs_from) = true)
    {fa_columns : Addr} {od_columns an_columns : Option Addr} {sl_columns : Array (Option Value)} {oc_columns kV_columns dc_columns pm_columns cd_columns ct_columns : Value}
    (x_columns : PySem.W.nsIn K mainGlobals "columns" = some (some (.ref fa_columns)))
    (l_columns : K.lookup fa_columns = some ⟨oc_columns, od_columns, .func (PySem.W.fnOf "columns" "columns" (defArgs s_columns) (defBody s_columns) (defScope s_columns) .none kV_columns dc_columns pm_columns an_columns cd_columns ct_columns), sl_columns⟩)
    (q_columns : PySem.W.codeIn K cd_columns "columns" = true) (k_columns : PySem.W.keepIn K (.ref fa_columns) = true)
    {fa_Meeting_often : Addr} {od_Meeting_often an_Meeting_often : Option Addr} {sl_Meeting_often : Array (Option Value)} {oc_Meeting_often kV_Meeting_often dc_Meeting_often pm_Meeting_often cd_Meeting_often ct_Meeting_often : Value}
    (x_Meeting_often : PySem.W.findIn K (.ref C_Meeting) "often" = some (some (.ref fa_Meeting_often))) (i_Meeting_often : PySem.W.isFn K (.ref fa_Meeting_often) = true)
    (l_Meeting_often : K.lookup fa_Meeting_often = some ⟨oc_Meeting_often, od_Meeting_often, .func (PySem.W.fnOf "often" "Meeting.often" (defArgs s_Meeting_often) (defBody s_Meeting_often) (defScope s_Meeting_often) .none kV_Meeting_often dc_Meeting_often pm_Meeting_often an_Meeting_often cd_Meeting_often ct_Meeting_often), sl_Meeting_often⟩)
    (q_Meeting_often : PySem.W.codeIn K cd_Meeting_often "Meeting.often" = true) (k_Meeting_often : PySem.W.keepIn K (.ref fa_Meeting_often) = true)
    {fa_law : Addr} {od_law an_law : Option Addr} {sl_law : Array (Option Value)} {oc_law kV_law dc_law pm_law cd_law ct_law : Value}
    (x_law : PySem.W.nsIn K mainGlobals "law" = some (some (.ref fa_law)))
    (l_law : K.lookup fa_law = some ⟨oc_law, od_law, .func (PySem.W.fnOf "law" "law" (defArgs s_law) (defBody s_law) (defScope s_law) .none kV_law dc_law pm_law an_law cd_law ct_law), sl_law⟩)
    (q_law : PySem.W.codeIn K cd_law "law" = true) (k_law : PySem.W.keepIn K (.ref fa_law) = true)
    (z_len : PySem.W.nsIn K mainGlobals "len" = some none)
    (z_tuple : PySem.W.nsIn K mainGlobals "tuple" = some none)
    (z_range : PySem.W.nsIn K mainGlobals "range" = some none)
    (z_sum : PySem.W.nsIn K mainGlobals "sum" = some none)
    (z_max : PySem.W.nsIn K mainGlobals "max" = some none)
    (z_sorted : PySem.W.nsIn K mainGlobals "sorted" = some none)
    (z_isinstance : PySem.W.nsIn K mainGlobals "isinstance" = some none)
    (z_int : PySem.W.nsIn K mainGlobals "int" = some none)
    (z_bool : PySem.W.nsIn K mainGlobals "bool" = some none)
    (z_zip : PySem.W.nsIn K mainGlobals "zip" = some none)
    (z_enumerate : PySem.W.nsIn K mainGlobals "enumerate" = some none)
    : ∃ (L : Lam) (tabs : List (Addr × Addr)) (fd : FuncData), (∀ p ∈ L.tab, p.1 ∈ tabs.map (·.2)) ∧ (∀ p ∈ tabs, K.lookup p.2 = none ∧ ∃ y : Str, ((recsOf q).find? (fun e => e.name == y)).isSome = true ∧ PySem.W.tabIn K y = some p) ∧ (∀ (s : Shared) (v : Value), BindsTo s fd ⟨[v], []⟩ [("_law_script", v)]) ∧ ∀ base : Heap, K.In base → base.Ns mainGlobals mg → BltAt mg base → FnOk l.prog w K mg base CX0 21 fa fd ["_law_script"] (spLaw K) := by
  letI L : Lam := ⟨[(TL_in_order, "in_order.<locals>.<lambda>")]⟩
  have O_Meeting : ClsOk K "Meeting" C_Meeting := ⟨x_Meeting, mk_Meeting, in_Meeting, kp_Meeting, ⟨pg_Meeting, hd_Meeting, po_Meeting, sa_Meeting⟩, cg_Meeting, hd_Meeting, cc_Meeting, cs_Meeting, ct_Meeting, cm_Meeting, clsn_mk ciint_Meeting cibool_Meeting cituple_Meeting cilist_Meeting cistr_Meeting cidict_Meeting⟩
  have m_Meeting := PySem.W.mg_of X G x_Meeting
  have F_law_mixed := fun2_mk (st := s_law_mixed) l_law_mixed q_law_mixed k_law_mixed
  have F_law_cell := fun2_mk (st := s_law_cell) l_law_cell q_law_cell k_law_cell
  have F_law_of_mark := fun2_mk (st := s_law_of_mark) l_law_of_mark q_law_of_mark k_law_of_mark
  have F_law_run := fun2_mk (st := s_law_run) l_law_run q_law_run k_law_run
  have F_law_pile := fun2_mk (st := s_law_pile) l_law_pile q_law_pile k_law_pile
  have F_law_marks := fun2_mk (st := s_law_marks) l_law_marks q_law_marks k_law_marks
  have F_law_counts := fun2_mk (st := s_law_counts) l_law_counts q_law_counts k_law_counts
  have F_law_least := fun2_mk (st := s_law_least) l_law_least q_law_least k_law_least
  have F_law_in_order := fun2_mk (st := s_law_in_order) l_law_in_order q_law_in_order k_law_in_order
  have F_law_pairs := fun2_mk (st := s_law_pairs) l_law_pairs q_law_pairs k_law_pairs
  have F_law_whole := fun2_mk (st := s_law_whole) l_law_whole q_law_whole k_law_whole
  have F_law_same := fun2_mk (st := s_law_same) l_law_same q_law_same k_law_same
  have F_order_of := fun2_mk (st := s_order_of) l_order_of q_order_of k_order_of
  have h_in_order := codeHdIn_of o_in_order hh_in_order
  have t_in_order := tabIn_of x_in_order l_in_order rfl o_in_order p_in_order
  have F_in_order := fun3_mk (st := s_in_order) l_in_order q_in_order h_in_order k_in_order
  have F_column := fun2_mk (st := s_column) l_column q_column k_column
  have F_baskets_in := fun2_mk (st := s_baskets_in) l_baskets_in q_baskets_in k_baskets_in
  have F_one_ware_more := fun2_mk (st := s_one_ware_more) l_one_ware_more q_one_ware_more k_one_ware_more
  have F_pairs_from := fun2_mk (st := s_pairs_from) l_pairs_from q_pairs_from k_pairs_from
  have F_columns := fun2_mk (st := s_columns) l_columns q_columns k_columns
  have F_Meeting_often := fun2_mk (st := s_Meeting_often) l_Meeting_often q_Meeting_often k_Meeting_often
  have F_law := fun2_mk (st := s_law) l_law q_law k_law
  have n_len := PySem.W.mg_none_of X G z_len
  have n_tuple := PySem.W.mg_none_of X G z_tuple
  have n_range := PySem.W.mg_none_of X G z_range
  have n_sum := PySem.W.mg_none_of X G z_sum
  have n_max := PySem.W.mg_none_of X G z_max
  have n_sorted := PySem.W.mg_none_of X G z_sorted
  have n_isinstance := PySem.W.mg_none_of X G z_isinstance
  have n_int := PySem.W.mg_none_of X G z_int
  have n_bool := PySem.W.mg_none_of X G z_bool
  have n_zip := PySem.W.mg_none_of X G z_zip
  have n_enumerate := PySem.W.mg_none_of X G z_enumerate
  have hP_L : (TL_in_order, ("in_order.<locals>.<lambda>" : Str)) ∈ Lam.tab := List.mem_singleton.mpr rfl
  have hU_L : ∀ p ∈ Lam.tab, p.1 = TL_in_order → p.2 = "in_order.<locals>.<lambda>" := fun p hp _ => by rw [List.mem_singleton.mp hp]
  have e := hfa.symm.trans (PySem.W.mg_of X G x_law)
  cases e
  have b__law_mixed : Binds K _ ["_law_script", "_law_k"] [] := F_law_mixed.bindsTo (P := fun fd => Binds K fd ["_law_script", "_law_k"] []) fun _ _ _ _ _ _ s us hk hl => ln2 (fun _ _ => .of_eq rfl) us hl
  have b__law_cell : Binds K _ ["_law_script", "_law_k"] [] := F_law_cell.bindsTo (P := fun fd => Binds K fd ["_law_script", "_law_k"] []) fun _ _ _ _ _ _ s us hk hl => ln2 (fun _ _ => .of_eq rfl) us hl
  have b__law_of_mark : Binds K _ ["_law_mark"] [] := F_law_of_mark.bindsTo (P := fun fd => Binds K fd ["_law_mark"] []) fun _ _ _ _ _ _ s us hk hl => ln1 (fun _ => .of_eq rfl) us hl
  have b__law_run : Binds K _ ["_law_number", "_law_wares", "_law_great"] [] := F_law_run.bindsTo (P := fun fd => Binds K fd ["_law_number", "_law_wares", "_law_great"] []) fun _ _ _ _ _ _ s us hk hl => ln3 (fun _ _ _ => .of_eq rfl) us hl
  have b__law_pile : Binds K _ ["_law_script", "_law_wares", "_law_most_runs"] [] := F_law_pile.bindsTo (P := fun fd => Binds K fd ["_law_script", "_law_wares", "_law_most_runs"] []) fun _ _ _ _ _ _ s us hk hl => ln3 (fun _ _ _ => .of_eq rfl) us hl
  have b__law_marks : Binds K _ ["_law_pile_here"] [] := F_law_marks.bindsTo (P := fun fd => Binds K fd ["_law_pile_here"] []) fun _ _ _ _ _ _ s us hk hl => ln1 (fun _ => .of_eq rfl) us hl
  have b__law_counts : Binds K _ ["_law_pile_here"] [] := F_law_counts.bindsTo (P := fun fd => Binds K fd ["_law_pile_here"] []) fun _ _ _ _ _ _ s us hk hl => ln1 (fun _ => .of_eq rfl) us hl
  have b__law_least : Binds K _ ["_law_script", "_law_counts_here"] [] := F_law_least.bindsTo (P := fun fd => Binds K fd ["_law_script", "_law_counts_here"] []) fun _ _ _ _ _ _ s us hk hl => ln2 (fun _ _ => .of_eq rfl) us hl
  have b__law_in_order : Binds K _ ["_law_marks_here"] [] := F_law_in_order.bindsTo (P := fun fd => Binds K fd ["_law_marks_here"] []) fun _ _ _ _ _ _ s us hk hl => ln1 (fun _ => .of_eq rfl) us hl
  have b__law_pairs : Binds K _ ["_law_marks_here", "_law_counts_here"] [] := F_law_pairs.bindsTo (P := fun fd => Binds K fd ["_law_marks_here", "_law_counts_here"] []) fun _ _ _ _ _ _ s us hk hl => ln2 (fun _ _ => .of_eq rfl) us hl
  have b__law_whole : Binds K _ ["_law_found", "_law_due"] [] := F_law_whole.bindsTo (P := fun fd => Binds K fd ["_law_found", "_law_due"] []) fun _ _ _ _ _ _ s us hk hl => ln2 (fun _ _ => .of_eq rfl) us hl
  have b__law_same : Binds K _ ["_law_found", "_law_due"] [] := F_law_same.bindsTo (P := fun fd => Binds K fd ["_law_found", "_law_due"] []) fun _ _ _ _ _ _ s us hk hl => ln2 (fun _ _ => .of_eq rfl) us hl
  have b_order_of : Binds K _ ["some"] [] := F_order_of.bindsTo (P := fun fd => Binds K fd ["some"] []) fun _ _ _ _ _ _ s us hk hl => ln1 (fun _ => .of_eq rfl) us hl
  have b_in_order : Binds K _ ["pairs"] [] := F_in_order.bindsTo (P := fun fd => Binds K fd ["pairs"] []) fun _ _ _ _ _ _ s us hk hl => ln1 (fun _ => .of_eq rfl) us hl
  have b_column : Binds K _ ["runs", "ware"] [] := F_column.bindsTo (P := fun fd => Binds K fd ["runs", "ware"] []) fun _ _ _ _ _ _ s us hk hl => ln2 (fun _ _ => .of_eq rfl) us hl
  have b_baskets_in : Binds K _ ["column", "runs"] [] := F_baskets_in.bindsTo (P := fun fd => Binds K fd ["column", "runs"] []) fun _ _ _ _ _ _ s us hk hl => ln2 (fun _ _ => .of_eq rfl) us hl
  have b_one_ware_more : Binds K _ ["some", "wares"] [] := F_one_ware_more.bindsTo (P := fun fd => Binds K fd ["some", "wares"] []) fun _ _ _ _ _ _ s us hk hl => ln2 (fun _ _ => .of_eq rfl) us hl
  have b_pairs_from : Binds K _ ["some", "column", "pile", "pile_columns", "least"] [] := F_pairs_from.bindsTo (P := fun fd => Binds K fd ["some", "column", "pile", "pile_columns", "least"] []) fun _ _ _ _ _ _ s us hk hl => ln5 (fun _ _ _ _ _ => .of_eq rfl) us hl
  have b_columns : Binds K _ ["pile"] [] := F_columns.bindsTo (P := fun fd => Binds K fd ["pile"] []) fun _ _ _ _ _ _ s us hk hl => ln1 (fun _ => .of_eq rfl) us hl
  have b_Meeting_often : Binds K _ ["self", "pile", "least"] [] := F_Meeting_often.bindsTo (P := fun fd => Binds K fd ["self", "pile", "least"] []) fun _ _ _ _ _ _ s us hk hl => ln3 (fun _ _ _ => .of_eq rfl) us hl
  refine ⟨L, [(cL_in_order, TL_in_order)], _, fun p hp => (by rw [List.mem_singleton.mp hp]; exact List.mem_singleton.mpr rfl), fun p hp => (by rw [List.mem_singleton.mp hp]; exact ⟨nl_in_order, _, r_in_order, t_in_order⟩), F_law.bindsTo (P := fun fd => ∀ (s : Shared) (v : Value), BindsTo s fd ⟨[v], []⟩ [("_law_script", v)]) (fun _ _ _ _ _ _ s v => .of_eq rfl), fun base _ _ B_L => ?_⟩
  have o_law_mixed := ok_law_mixed (P := l.prog) (w := w) (mg := mg) (base := base) F_law_mixed n_len
  have c__law_mixed := Cal.mk o_law_mixed (PySem.W.mg_of X G x_law_mixed) k_law_mixed
  have o_law_cell := ok_law_cell (P := l.prog) (w := w) (mg := mg) (base := base) F_law_cell n_len
  have c__law_cell := Cal.mk o_law_cell (PySem.W.mg_of X G x_law_cell) k_law_cell
  have o_law_of_mark := ok_law_of_mark (P := l.prog) (w := w) (mg := mg) (base := base) F_law_of_mark n_tuple n_range
  have c__law_of_mark := Cal.mk o_law_of_mark (PySem.W.mg_of X G x_law_of_mark) k_law_of_mark
  have o_law_run := ok_law_run (P := l.prog) (w := w) (mg := mg) (base := base) F_law_run c__law_of_mark b__law_of_mark
  have c__law_run := Cal.mk o_law_run (PySem.W.mg_of X G x_law_run) k_law_run
  have o_law_pile := ok_law_pile (P := l.prog) (w := w) (mg := mg) (base := base) F_law_pile c__law_mixed b__law_mixed c__law_cell b__law_cell c__law_run b__law_run n_range n_tuple
  have c__law_pile := Cal.mk o_law_pile (PySem.W.mg_of X G x_law_pile) k_law_pile
  have o_law_marks := ok_law_marks (P := l.prog) (w := w) (mg := mg) (base := base) F_law_marks n_sum
  have c__law_marks := Cal.mk o_law_marks (PySem.W.mg_of X G x_law_marks) k_law_marks
  have o_law_counts := ok_law_counts (P := l.prog) (w := w) (mg := mg) (base := base) F_law_counts c__law_marks b__law_marks n_range n_sum
  have c__law_counts := Cal.mk o_law_counts (PySem.W.mg_of X G x_law_counts) k_law_counts
  have o_law_least := ok_law_least (P := l.prog) (w := w) (mg := mg) (base := base) F_law_least c__law_cell b__law_cell n_max n_len
  have c__law_least := Cal.mk o_law_least (PySem.W.mg_of X G x_law_least) k_law_least
  have o_law_in_order := ok_law_in_order (P := l.prog) (w := w) (mg := mg) (base := base) F_law_in_order c__law_of_mark b__law_of_mark n_len n_sorted
  have c__law_in_order := Cal.mk o_law_in_order (PySem.W.mg_of X G x_law_in_order) k_law_in_order
  have o_law_pairs := ok_law_pairs (P := l.prog) (w := w) (mg := mg) (base := base) F_law_pairs c__law_of_mark b__law_of_mark c__law_in_order b__law_in_order
  have c__law_pairs := Cal.mk o_law_pairs (PySem.W.mg_of X G x_law_pairs) k_law_pairs
  have o_law_whole := ok_law_whole (P := l.prog) (w := w) (mg := mg) (base := base) F_law_whole n_isinstance n_int n_bool
  have c__law_whole := Cal.mk o_law_whole (PySem.W.mg_of X G x_law_whole) k_law_whole
  have o_law_same := ok_law_same (P := l.prog) (w := w) (mg := mg) (base := base) F_law_same c__law_whole b__law_whole n_zip n_isinstance n_tuple n_len
  have c__law_same := Cal.mk o_law_same (PySem.W.mg_of X G x_law_same) k_law_same
  have o_order_of := ok_order_of (P := l.prog) (w := w) (mg := mg) (base := base) F_order_of n_len
  have c_order_of := Cal.mk o_order_of (PySem.W.mg_of X G x_order_of) k_order_of
  have o_in_order := ok_in_order (P := l.prog) (w := w) (mg := mg) (base := base) c_order_of b_order_of n_tuple n_sorted F_in_order hP_L hU_L B_L
  have c_in_order := Cal.mk o_in_order (PySem.W.mg_of X G x_in_order) k_in_order
  have o_column := ok_column (P := l.prog) (w := w) (mg := mg) (base := base) F_column n_sum n_enumerate
  have c_column := Cal.mk o_column (PySem.W.mg_of X G x_column) k_column
  have o_baskets_in := ok_baskets_in (P := l.prog) (w := w) (mg := mg) (base := base) F_baskets_in c_column n_sum n_enumerate
  have c_baskets_in := Cal.mk o_baskets_in (PySem.W.mg_of X G x_baskets_in) k_baskets_in
  have o_one_ware_more := ok_one_ware_more (P := l.prog) (w := w) (mg := mg) (base := base) F_one_ware_more n_range
  have c_one_ware_more := Cal.mk o_one_ware_more (PySem.W.mg_of X G x_one_ware_more) k_one_ware_more
  have o_pairs_from := ok_pairs_from (P := l.prog) (w := w) (mg := mg) (base := base) F_pairs_from (PySem.W.mg_of X G x_pairs_from) k_pairs_from b_pairs_from c_baskets_in b_baskets_in c_column c_one_ware_more b_one_ware_more 16
  have c_pairs_from := Cal.mk o_pairs_from (PySem.W.mg_of X G x_pairs_from) k_pairs_from
  have o_columns := ok_columns (P := l.prog) (w := w) (mg := mg) (base := base) F_columns c_column b_column n_tuple n_range
  have c_columns := Cal.mk o_columns (PySem.W.mg_of X G x_columns) k_columns
  have o_Meeting_often := ok_Meeting_often (P := l.prog) (w := w) (mg := mg) (base := base) F_Meeting_often c_in_order b_in_order c_pairs_from b_pairs_from c_columns b_columns n_len
  have c_Meeting_often : CalM l.prog w K mg base "Meeting" "often" C_Meeting _ _ _ _ _ _ := ⟨o_Meeting_often, ⟨x_Meeting_often, i_Meeting_often, k_Meeting_often⟩⟩
  exact law_of (ok_law (P := l.prog) (w := w) (mg := mg) (base := base) F_law O_Meeting m_Meeting c__law_pile b__law_pile c__law_counts b__law_counts c__law_least b__law_least c__law_pairs b__law_pairs c__law_same b__law_same c_Meeting_often b_Meeting_often c__law_cell b__law_cell n_range n_len) hm
end My
open PySem PySem.W PyProof.Rows
set_option maxRecDepth 100000 in
set_option maxHeartbeats 0 in
theorem PySem.Challenge.cw_oftentogether_k13_by_columns_holds : PySem.Challenge.rw_oftentogether_k13_by_columns.Holds := by
  w_on; o_law; k_head; (case hw => w_witness2)
  k_fill
  refine DL.walk63L (l := PySem.Challenge.rw_oftentogether_k13_by_columns) (k := 21) (x := "_law_script") rfl rfl ⟨rfl, by decide, by decide⟩ (fun w h Y => by first | exact PySem.W.kIn_of Y | exact PySem.W.km_in_of Y) ?F
  case F =>
    intro w mg fa h KX G hmg
    refine' My.all_mk KX G hmg My.law_true ?x_Meeting ?mk_Meeting ?in_Meeting ?kp_Meeting ?pg_Meeting ?hd_Meeting ?po_Meeting ?sa_Meeting ?cg_Meeting ?cc_Meeting ?cs_Meeting ?ct_Meeting ?cm_Meeting ?ciint_Meeting ?cibool_Meeting ?cituple_Meeting ?cilist_Meeting ?cistr_Meeting ?cidict_Meeting ?x_law_mixed ?l_law_mixed ?q_law_mixed ?k_law_mixed ?x_law_cell ?l_law_cell ?q_law_cell ?k_law_cell ?x_law_of_mark ?l_law_of_mark ?q_law_of_mark ?k_law_of_mark ?x_law_run ?l_law_run ?q_law_run ?k_law_run ?x_law_pile ?l_law_pile ?q_law_pile ?k_law_pile ?x_law_marks ?l_law_marks ?q_law_marks ?k_law_marks ?x_law_counts ?l_law_counts ?q_law_counts ?k_law_counts ?x_law_least ?l_law_least ?q_law_least ?k_law_least ?x_law_in_order ?l_law_in_order ?q_law_in_order ?k_law_in_order ?x_law_pairs ?l_law_pairs ?q_law_pairs ?k_law_pairs ?x_law_whole ?l_law_whole ?q_law_whole ?k_law_whole ?x_law_same ?l_law_same ?q_law_same ?k_law_same ?x_order_of ?l_order_of ?q_order_of ?k_order_of ?x_in_order ?l_in_order ?q_in_order ?k_in_order ?o_in_order ?p_in_order ?hh_in_order ?nl_in_order ?r_in_order ?x_column ?l_column ?q_column ?k_column ?x_baskets_in ?l_baskets_in ?q_baskets_in ?k_baskets_in ?x_one_ware_more ?l_one_ware_more ?q_one_ware_more ?k_one_ware_more ?x_pairs_from ?l_pairs_from ?q_pairs_from ?k_pairs_from ?x_columns ?l_columns ?q_columns ?k_columns ?x_Meeting_often ?i_Meeting_often ?l_Meeting_often ?q_Meeting_often ?k_Meeting_often ?x_law ?l_law ?q_law ?k_law ?z_len ?z_tuple ?z_range ?z_sum ?z_max ?z_sorted ?z_isinstance ?z_int ?z_bool ?z_zip ?z_enumerate
    (case x_Meeting => k_is)
    (case mk_Meeting => k_is)
    (case in_Meeting => k_is)
    (case kp_Meeting => k_is)
    (case pg_Meeting => k_is)
    (case hd_Meeting => k_is)
    (case po_Meeting => k_is)
    (case sa_Meeting => k_is)
    (case cg_Meeting => k_is)
    (case cc_Meeting => k_is)
    (case cs_Meeting => k_is)
    (case ct_Meeting => k_is)
    (case cm_Meeting => k_is)
    (case ciint_Meeting => k_is)
    (case cibool_Meeting => k_is)
    (case cituple_Meeting => k_is)
    (case cilist_Meeting => k_is)
    (case cistr_Meeting => k_is)
    (case cidict_Meeting => k_is)
    (case x_law_mixed => k_is)
    (case l_law_mixed => k_is)
    (case q_law_mixed => k_is)
    (case k_law_mixed => k_is)
    (case x_law_cell => k_is)
    (case l_law_cell => k_is)
    (case q_law_cell => k_is)
    (case k_law_cell => k_is)
    (case x_law_of_mark => k_is)
    (case l_law_of_mark => k_is)
    (case q_law_of_mark => k_is)
    (case k_law_of_mark => k_is)
    (case x_law_run => k_is)
    (case l_law_run => k_is)
    (case q_law_run => k_is)
    (case k_law_run => k_is)
    (case x_law_pile => k_is)
    (case l_law_pile => k_is)
    (case q_law_pile => k_is)
    (case k_law_pile => k_is)
    (case x_law_marks => k_is)
    (case l_law_marks => k_is)
    (case q_law_marks => k_is)
    (case k_law_marks => k_is)
    (case x_law_counts => k_is)
    (case l_law_counts => k_is)
    (case q_law_counts => k_is)
    (case k_law_counts => k_is)
    (case x_law_least => k_is)
    (case l_law_least => k_is)
    (case q_law_least => k_is)
    (case k_law_least => k_is)
    (case x_law_in_order => k_is)
    (case l_law_in_order => k_is)
    (case q_law_in_order => k_is)
    (case k_law_in_order => k_is)
    (case x_law_pairs => k_is)
    (case l_law_pairs => k_is)
    (case q_law_pairs => k_is)
    (case k_law_pairs => k_is)
    (case x_law_whole => k_is)
    (case l_law_whole => k_is)
    (case q_law_whole => k_is)
    (case k_law_whole => k_is)
    (case x_law_same => k_is)
    (case l_law_same => k_is)
    (case q_law_same => k_is)
    (case k_law_same => k_is)
    (case x_order_of => k_is)
    (case l_order_of => k_is)
    (case q_order_of => k_is)
    (case k_order_of => k_is)
    (case x_in_order => k_is)
    (case l_in_order => k_is)
    (case q_in_order => k_is)
    (case k_in_order => k_is)
    (case o_in_order => k_is)
    (case p_in_order => first | rfl | decide +kernel)
    (case hh_in_order => first | rfl | decide +kernel)
    (case nl_in_order => first | kernel_rfl | rfl)
    (case r_in_order => first | rfl | decide +kernel)
    (case x_column => k_is)
    (case l_column => k_is)
    (case q_column => k_is)
    (case k_column => k_is)
    (case x_baskets_in => k_is)
    (case l_baskets_in => k_is)
    (case q_baskets_in => k_is)
    (case k_baskets_in => k_is)
    (case x_one_ware_more => k_is)
    (case l_one_ware_more => k_is)
    (case q_one_ware_more => k_is)
    (case k_one_ware_more => k_is)
    (case x_pairs_from => k_is)
    (case l_pairs_from => k_is)
    (case q_pairs_from => k_is)
    (case k_pairs_from => k_is)
    (case x_columns => k_is)
    (case l_columns => k_is)
    (case q_columns => k_is)
    (case k_columns => k_is)
    (case x_Meeting_often => k_is)
    (case i_Meeting_often => k_is)
    (case l_Meeting_often => k_is)
    (case q_Meeting_often => k_is)
    (case k_Meeting_often => k_is)
    (case x_law => k_is)
    (case l_law => k_is)
    (case q_law => k_is)
    (case k_law => k_is)
    (case z_len => k_is)
    (case z_tuple => k_is)
    (case z_range => k_is)
    (case z_sum => k_is)
    (case z_max => k_is)
    (case z_sorted => k_is)
    (case z_isinstance => k_is)
    (case z_int => k_is)
    (case z_bool => k_is)
    (case z_zip => k_is)
    (case z_enumerate => k_is)
