import PyProof.Rows.All
import Wide.All
import OpenK.AllK
import Wide.FinOn
import Lean
import PyProof.EqAt
import PyProof.EqKinds
import PyProof.TupleCall
import PyProof.NeKinds
import PyProof.CollectIter
import PyProof.TupleOfGen
import KE.KRevIter
import PySem.Challenge.RW_oftentogether_k62_places
set_option Elab.async false
set_option linter.all false
set_option maxRecDepth 100000
set_option maxRecDepth 100000
/-! THE HAND LAYER, for ints, bools, texts, own classes, LISTS and tuples (index, slices, in, append, pop ..), calls, loops. Paste it whole ahead of your own text; what your proof does not reach may be deleted. -/
namespace L2
open PySem PySem.Spec PyProof.Rows

/-- a key: an int or a str -/
abbrev Key := Sum Int Str
def keyIs : Key → Value → Bool
  | .inl k, v => Value.isInt k v
  | .inr x, v => Value.isStrOf x v
def keyH (w : World) : Key → Int
  | .inl k => hashInt k
  | .inr x => hashStr w x
theorem keyIs_shape : ∀ {k : Key} {v : Value}, keyIs k v = true → (∃ i t, k = Sum.inl i ∧ v = Value.int i t) ∨ (∃ x t, k = Sum.inr x ∧ v = Value.str x t)
  | .inl i, v, h => by
    obtain ⟨t, e⟩ := Value.isInt_shape (k := i) (v := v) h
    exact .inl ⟨i, t, rfl, e⟩
  | .inr x, v, h => by
    obtain ⟨t, e⟩ := Value.isStrOf_shape (x := x) (v := v) h
    exact .inr ⟨x, t, rfl, e⟩
theorem keyIs_int (i : Int) (t : Tok) : keyIs (.inl i) (.int i t) = true := by simp [keyIs, Value.isInt]
theorem keyIs_str (x : Str) (t : Tok) : keyIs (.inr x) (.str x t) = true := by simp [keyIs, Value.isStrOf]
theorem key_ll (a b : Int) : decide ((Sum.inl a : Key) = Sum.inl b) = (a == b) := by
  by_cases e : a = b
  · subst e; simp
  · have h : ¬ (Sum.inl a : Key) = Sum.inl b := fun q => e (Sum.inl.inj q)
    rw [decide_eq_false h]
    exact (beq_eq_false_iff_ne.mpr e).symm
theorem key_rr (a b : Str) : decide ((Sum.inr a : Key) = Sum.inr b) = decide (a = b) := by
  by_cases e : a = b
  · subst e; simp
  · have h : ¬ (Sum.inr a : Key) = Sum.inr b := fun q => e (Sum.inr.inj q)
    rw [decide_eq_false h, decide_eq_false e]
theorem key_lr (a : Int) (b : Str) : decide ((Sum.inl a : Key) = Sum.inr b) = false := decide_eq_false (fun q => nomatch q)
theorem key_rl (a : Str) (b : Int) : decide ((Sum.inr a : Key) = Sum.inl b) = false := decide_eq_false (fun q => nomatch q)

def mixKind (prog : Program) (w : World) : PySem.KeyKind prog w Key where
  is := keyIs
  hash := keyH w
  inj := fun v a b ha hb => by
    rcases keyIs_shape ha with ⟨i, t, rfl, rfl⟩ | ⟨x, t, rfl, rfl⟩
    · rcases keyIs_shape hb with ⟨j, u, rfl, e⟩ | ⟨y, u, rfl, e⟩
      · injection e with e1 _; rw [e1]
      · exact nomatch e
    · rcases keyIs_shape hb with ⟨j, u, rfl, e⟩ | ⟨y, u, rfl, e⟩
      · exact nomatch e
      · injection e with e1 _; rw [e1]
  byValue := fun k v h => by
    rcases keyIs_shape h with ⟨i, t, rfl, rfl⟩ | ⟨x, t, rfl, rfl⟩ <;> rfl
  pyHash := fun hv h => by
    rcases keyIs_shape hv with ⟨i, t, rfl, rfl⟩ | ⟨x, t, rfl, rfl⟩
    · exact wpAny_pyHash_int h
    · exact wpAny_pyHash_str h
  eqBool := fun hu hv h => by
    rcases keyIs_shape hu with ⟨i, t, rfl, rfl⟩ | ⟨x, t, rfl, rfl⟩
    · rcases keyIs_shape hv with ⟨j, u, rfl, rfl⟩ | ⟨y, u, rfl, rfl⟩
      · rw [key_ll] at h; exact wpAny_eqBool_int h
      · rw [key_lr] at h; exact SeqAt.EqAt.int_str i t y u _ _ _ _ h
    · rcases keyIs_shape hv with ⟨j, u, rfl, rfl⟩ | ⟨y, u, rfl, rfl⟩
      · rw [key_rl] at h; exact SeqAt.EqAt.str_int x t j u _ _ _ _ h
      · rw [key_rr] at h; exact wpAny_eqBool_str h
  «strs» := fun k x t v h => by
    rcases keyIs_shape h with ⟨i, u, rfl, e⟩ | ⟨y, u, rfl, e⟩
    · exact nomatch e
    · injection e with e1 _
      subst e1
      cases v <;> rfl

theorem mixKind_is (prog : Program) (w : World) (k : Key) (v : Value) : (mixKind prog w).is k v = keyIs k v := rfl
theorem mixKind_int (prog : Program) (w : World) (i : Int) (t : Tok) : (mixKind prog w).is (.inl i) (.int i t) = true := keyIs_int i t
theorem mixKind_str (prog : Program) (w : World) (x : Str) (t : Tok) : (mixKind prog w).is (.inr x) (.str x t) = true := keyIs_str x t
end L2

namespace L2
open PySem PySem.Spec PyProof.Rows

/-- a value, without the heap -/
inductive V where
  | non | bl (b : Bool) | int (i : Int) | str (x : Str) | byt (b : Array UInt8) | flt (b : UInt64) | ref (a : Addr) | ty (n : String)
  deriving DecidableEq

def RelV : V → Value → Prop
  | .non, u => u = Value.none
  | .bl b, u => u = Value.bool b
  | .int i, u => ∃ t, u = Value.int i t
  | .str x, u => ∃ t, u = Value.str x t
  | .byt b, u => ∃ t, u = Value.bytes b t
  | .flt b, u => ∃ t, u = Value.float b t
  | .ref a, u => u = Value.ref a
  | .ty n, u => u = Value.type n

abbrev Vals : List V → List Value → Prop := Paired RelV
theorem Vals.length {xs : List V} {us : List Value} (r : Vals xs us) : xs.length = us.length := Paired.length r
theorem Vals.get : ∀ {xs : List V} {us : List Value} {i : Nat} {x : V}, Vals xs us → xs[i]? = some x → ∃ u, us[i]? = some u ∧ RelV x u
  | _, _, _, _, .nil, e => by simp at e
  | _, _, 0, _, .cons r _, e => by simp at e; subst e; exact ⟨_, rfl, r⟩
  | _, _, i + 1, x, .cons _ t, e => by
    obtain ⟨u, h1, h2⟩ := Vals.get (i := i) (x := x) t (by simpa using e)
    exact ⟨u, by simpa using h1, h2⟩
theorem Vals.set {x : V} {u : Value} (r : RelV x u) : ∀ {xs : List V} {us : List Value} (i : Nat), Vals xs us → Vals (xs.set i x) (us.set i u)
  | _, _, _, .nil => .nil
  | _, _, 0, .cons _ t => .cons r t
  | _, _, i + 1, .cons q t => .cons q (Vals.set r i t)
theorem Vals.append : ∀ {xs ys : List V} {us ws : List Value}, Vals xs us → Vals ys ws → Vals (xs ++ ys) (us ++ ws)
  | _, _, _, _, .nil, s => s
  | _, _, _, _, .cons r t, s => .cons r (Vals.append t s)
theorem Vals.take : ∀ {xs : List V} {us : List Value} (n : Nat), Vals xs us → Vals (xs.take n) (us.take n)
  | _, _, 0, _ => .nil
  | _, _, _ + 1, .nil => .nil
  | _, _, n + 1, .cons r t => .cons r (Vals.take n t)
theorem Vals.drop : ∀ {xs : List V} {us : List Value} (n : Nat), Vals xs us → Vals (xs.drop n) (us.drop n)
  | _, _, 0, r => r
  | _, _, _ + 1, .nil => .nil
  | _, _, n + 1, .cons _ t => Vals.drop n t
theorem Vals.none_of : ∀ {xs : List V} {us : List Value} {i : Nat}, Vals xs us → xs[i]? = none → us[i]? = none := fun {xs us i} r e => by
  have h1 := r.length
  have h2 : xs.length ≤ i := List.getElem?_eq_none_iff.mp e
  exact List.getElem?_eq_none_iff.mpr (by omega)

def RelO : Option V → Option Value → Prop
  | some v, some u => RelV v u
  | none, none => True
  | _, _ => False
def KV {κ : Type} : List (κ × V) → List (κ × Value) → Prop := Paired fun (p : κ × V) (q : κ × Value) => p.1 = q.1 ∧ RelV p.2 q.2

/-- a key of a dict (00_mix): an int or a text -/
def kV : Key → V
  | .inl i => .int i
  | .inr x => .str x

/-- what stands at a tracked address -/
inductive HO where
  /-- a list -/
  | lst (xs : List V)
  /-- a tuple (never changes) -/
  | tup (xs : List V)
  /-- a dict whose keys are ints and texts; one whose keys are tuples of ints and texts (the empty one is both) -/
  | dK (kvs : List (Key × V)) | dT (kvs : List (List Key × V))
  /-- a set of ints: its members, its size -/
  | set (S : Int → Bool) (n : Nat)
  /-- an instance of the class at C, its dict at dx, its attributes -/
  | ins (C dx : Addr) (fs : List (Str × V))
  /-- the dict of the instance at x -/
  | own (x : Addr)
  /-- the dict of an exception -/
  | xd (fs : List (Str × V))
  /-- a bound method, f of x -/
  | met (f x : Addr)
  /-- a range object lo, lo + 1, .. below hi -/
  | rng (lo hi : Int)
  /-- a thing that is known to the object (the script; a dict while a loop walks it): read, never written while it is so -/
  | frz (o : Obj) (u : HO)
  /-- a code object's table -/
  | tbl (ps : Array Value)
  /-- any other thing, by what is true of its one object (a def of one's own: SetO a S n := HO.ext fun h => ..) -/
  | ext (φ : Heap → Prop)

abbrev Hp := Addr → Option HO
def upd (H : Hp) (a : Addr) (o : HO) : Hp := fun b => if b = a then some o else H b
theorem upd_same {H : Hp} {a : Addr} {o : HO} : upd H a o a = some o := by unfold upd; rw [if_pos rfl]
theorem upd_ne {H : Hp} {a b : Addr} {o : HO} (h : b ≠ a) : upd H a o b = H b := by unfold upd; rw [if_neg h]
theorem upd_upd {H : Hp} {a : Addr} {o u : HO} : upd (upd H a o) a u = upd H a u := by
  funext b; unfold upd; split <;> rfl
/-- two objects of different content stand apart -/
theorem ne_of {H : Hp} {a b : Addr} {o u : HO} (h : H a = some o) (h' : H b = some u) (d : o ≠ u) : a ≠ b := by
  intro e; subst e; rw [h] at h'; exact d (Option.some.inj h')
theorem ne_of_none {H : Hp} {a b : Addr} {o : HO} (h : H a = some o) (h' : H b = none) : a ≠ b := by
  intro e; subst e; rw [h] at h'; cases h'

section
variable (P : Program) (w : World)
def ObjOk (H : Hp) (h : Heap) (a : Addr) : HO → Prop
  | .lst xs => xs.length ≤ sizeLine ∧ ∃ (its : List Value) (n : Nat), Vals xs its ∧ h.get? a = some { cls := .type "list", data := .seq its.toArray n }
  | .tup xs => xs.length ≤ sizeLine ∧ ∃ its : List Value, Vals xs its ∧ IsTup h a its.toArray
  | .dK kvs => kvs.length ≤ sizeLine ∧ (a == sysModules) = false ∧ ∃ vs, KV kvs vs ∧ h.DictOf (mixKind P w) a vs
  | .dT kvs => kvs.length ≤ sizeLine ∧ (a == sysModules) = false ∧ ∃ xs : List (List Key × Addr × Value),
      Paired (fun (p : List Key × V) (q : List Key × Addr × Value) => p.1 = q.1 ∧ H q.2.1 = some (.tup (p.1.map kV)) ∧ RelV p.2 q.2.2) kvs xs ∧
      ∃ o es ep, h.get? a = some o ∧ o.ExactDict ∧ o.data = .dict es ep ∧ es.toList = xs.map (entryOfKey (tupleKind (mixKind P w))) ∧ (xs.map (·.1)).Nodup
  | .set S n => h.SetOf (intKind P w) a S n
  | .ins C dx fs => H dx = some (.own a) ∧ fs.length ≤ 1000 ∧ dx ≠ a ∧ h.get? a = some (PySem.W.instObj C dx) ∧
      ∃ mA, h.Ns1 dx mA ∧ (∀ f, RelO (fs.lookup f) (mA f)) ∧ PySem.Within mA (fs.map (·.1))
  | .own _ => ∃ o, h.get? a = some o
  | .xd fs => ∃ mA, h.Ns1 a mA ∧ ∀ f, RelO (fs.lookup f) (mA f)
  | .rng lo hi => ∃ t u v, h.get? a = some { cls := .type "range", data := .fields #[.int lo t, .int hi u, .int 1 v] }
  | .frz o u => h.get? a = some o ∧ ObjOk H h a u
  | .tbl ps => h.get? a = some { cls := .none, data := .fields ps }
  | .met f x => h.get? a = some (PySem.W.methodObj (.ref f) (.ref x))
  | .ext φ => φ h ∧ (∃ o, h.get? a = some o) ∧ ∀ h1 h2 : Heap, φ h1 → (∀ o, h1.get? a = some o → h2.get? a = some o) → φ h2
/-- the abstract heap is held -/
def HOk (H : Hp) (h : Heap) : Prop := ∀ a o, H a = some o → ObjOk P w H h a o
end

section
variable {P : Program} {w : World} {H H' : Hp} {h h' : Heap} {a : Addr} {o : HO}
theorem ObjOk.lt (x : ObjOk P w H h a o) : a < h.objs.size := by
  cases o with
  | lst xs => obtain ⟨_, _, _, _, e⟩ := x; exact Heap.lt_size e
  | tup xs => obtain ⟨_, _, _, p⟩ := x; exact p.lt
  | dK kvs => obtain ⟨_, _, _, _, o, _, _, e, _⟩ := x; exact Heap.lt_size e
  | dT kvs => obtain ⟨_, _, _, _, o, _, _, e, _⟩ := x; exact Heap.lt_size e
  | set S n => obtain ⟨o, _, _, _, e, _⟩ := x; exact Heap.lt_size e
  | ins C dx fs => obtain ⟨_, _, _, e, _⟩ := x; exact Heap.lt_size e
  | own y => obtain ⟨_, e⟩ := x; exact Heap.lt_size e
  | xd fs => obtain ⟨_, ⟨_, _, _, e, _⟩, _⟩ := x; exact Heap.lt_size e
  | rng lo hi => obtain ⟨_, _, _, e⟩ := x; exact Heap.lt_size e
  | frz ob u => obtain ⟨e, _⟩ := x; exact Heap.lt_size e
  | tbl ps => exact Heap.lt_size (show h.get? a = some _ from x)
  | met f y => exact Heap.lt_size (show h.get? a = some _ from x)
  | ext φ => obtain ⟨_, ⟨_, e⟩, _⟩ := x; exact Heap.lt_size e
theorem Paired.mapP {α β : Type} {F G : α → β → Prop} : ∀ {l₁ : List α} {l₂ : List β}, Paired F l₁ l₂ → (∀ a b, F a b → G a b) → Paired G l₁ l₂
  | _, _, .nil, _ => .nil
  | _, _, .cons r t, f => .cons (f _ _ r) (Paired.mapP t f)
theorem Paired.imp' {α β : Type} {F G : α → β → Prop} (f : ∀ a b, F a b → G a b) {l₁ : List α} {l₂ : List β} (r : Paired F l₁ l₂) : Paired G l₁ l₂ := Paired.mapP r f
/-- what an object's description leans on: its own object, its own dict, the tuples -/
theorem ObjOk.stay (x : ObjOk P w H h a o) (k : ∀ b u, (b = a ∨ H b = some (.own a)) → h.get? b = some u → h'.get? b = some u)
    (ho : ∀ b, H b = some (.own a) → H' b = some (.own a)) (ht : ∀ b xs, H b = some (.tup xs) → H' b = some (.tup xs)) : ObjOk P w H' h' a o := by
  induction o with
  | lst xs => obtain ⟨z, its, n, r, e⟩ := x; exact ⟨z, its, n, r, k _ _ (.inl rfl) e⟩
  | tup xs => obtain ⟨z, its, r, ob, e, c⟩ := x; exact ⟨z, its, r, ob, k _ _ (.inl rfl) e, c⟩
  | dK kvs => obtain ⟨z, y, vs, r, ob, es, ep, e, c⟩ := x; exact ⟨z, y, vs, r, ob, es, ep, k _ _ (.inl rfl) e, c⟩
  | dT kvs =>
    obtain ⟨z, y, xs, r, ob, es, ep, e, c⟩ := x
    exact ⟨z, y, xs, Paired.mapP r fun p q z => ⟨z.1, ht _ _ z.2.1, z.2.2⟩, ob, es, ep, k _ _ (.inl rfl) e, c⟩
  | set S n => obtain ⟨ob, es, ep, t, e, c⟩ := x; exact ⟨ob, es, ep, t, k _ _ (.inl rfl) e, c⟩
  | ins C dx fs =>
    obtain ⟨d, z, ne, e, mA, ⟨od, es, ep, e2, c⟩, r⟩ := x
    exact ⟨ho _ d, z, ne, k _ _ (.inl rfl) e, mA, ⟨od, es, ep, k _ _ (.inr d) e2, c⟩, r⟩
  | own y => obtain ⟨ob, e⟩ := x; exact ⟨ob, k _ _ (.inl rfl) e⟩
  | xd fs => obtain ⟨mA, ⟨od, es, ep, e, c⟩, r⟩ := x; exact ⟨mA, ⟨od, es, ep, k _ _ (.inl rfl) e, c⟩, r⟩
  | rng lo hi => obtain ⟨t, u, v, e⟩ := x; exact ⟨t, u, v, k _ _ (.inl rfl) e⟩
  | frz ob u ih => obtain ⟨e, q⟩ := x; exact ⟨k _ _ (.inl rfl) e, ih q⟩
  | tbl ps =>
    have e : h.get? a = some { cls := .none, data := .fields ps } := x
    show h'.get? a = some { cls := .none, data := .fields ps }
    exact k a _ (.inl rfl) e
  | met f y =>
    have e : h.get? a = some (PySem.W.methodObj (.ref f) (.ref y)) := x
    show h'.get? a = some (PySem.W.methodObj (.ref f) (.ref y))
    exact k a _ (.inl rfl) e
  | ext φ => obtain ⟨p, ⟨o, e⟩, st⟩ := x; exact ⟨st _ _ p fun o q => k _ _ (.inl rfl) q, ⟨o, k _ _ (.inl rfl) e⟩, st⟩
theorem HOk.lt (x : HOk P w H h) (e : H a = some o) : a < h.objs.size := (x a o e).lt
theorem HOk.fresh (x : HOk P w H h) (e : h.objs.size ≤ a) : H a = none := by
  cases q : H a with
  | none => rfl
  | some u => exact absurd (Nat.lt_of_lt_of_le (x.lt q) e) (Nat.lt_irrefl _)
/-- every object of the heap is kept -/
theorem HOk.kept (x : HOk P w H h) (k : ∀ b u, h.get? b = some u → h'.get? b = some u) : HOk P w H h' := fun a o e =>
  (x a o e).stay (fun b u _ q => k b u q) (fun _ q => q) fun _ _ q => q
/-- a new object is laid and tracked -/
theorem HOk.laid (x : HOk P w H h) (k : ∀ b u, h.get? b = some u → h'.get? b = some u) (hp : h.objs.size ≤ a) (new : ObjOk P w (upd H a o) h' a o) : HOk P w (upd H a o) h' := fun b u e => by
  have hn := x.fresh hp
  by_cases hb : b = a
  · subst hb; rw [upd_same] at e; cases e; exact new
  · rw [upd_ne hb] at e
    exact (x b u e).stay (fun c v _ q => k c v q) (fun c q => by rw [upd_ne (ne_of_none q hn)]; exact q) fun c xs q => by rw [upd_ne (ne_of_none q hn)]; exact q
end

/-- what may be read as u: it is u, or a known u -/
def Rd (H : Hp) (a : Addr) (u : HO) : Prop := H a = some u ∨ ∃ o, H a = some (.frz o u)
theorem Rd.of {H : Hp} {a : Addr} {u : HO} (h : H a = some u) : Rd H a u := .inl h
theorem Rd.ok {P : Program} {w : World} {H : Hp} {h : Heap} {a : Addr} {u : HO} (r : Rd H a u) (x : HOk P w H h) : ObjOk P w H h a u := by
  rcases r with r | ⟨o, r⟩
  · exact x a u r
  · obtain ⟨_, q⟩ := x a _ r
    exact q
/-- what may be written -/
def Mut : Option HO → Prop
  | some (.lst _) => True
  | some (.dK _) => True
  | some (.dT _) => True
  | some (.set _ _) => True
  | some (.ins _ _ _) => True
  | some (.ext _) => True
  | _ => False
section
variable {P : Program} {w : World} {H : Hp} {h h' : Heap} {x e : Addr} {o' : HO}
/-- the object at e is changed: x itself, or the dict of the instance x -/
theorem HOk.write (ok : HOk P w H h) (mu : Mut (H x)) (he : e = x ∨ H e = some (.own x)) (k : ∀ b u, b ≠ e → h.get? b = some u → h'.get? b = some u) (heo : ∃ u, h'.get? e = some u)
    (new : ObjOk P w (upd H x o') h' x o') : HOk P w (upd H x o') h' := fun b u q => by
  have nown : ∀ c y, H c = some (.own y) → c ≠ x := fun c y r z => by subst z; rw [r] at mu; exact mu
  have ntup : ∀ c xs, H c = some (.tup xs) → c ≠ x := fun c xs r z => by subst z; rw [r] at mu; exact mu
  by_cases hb : b = x
  · subst hb; rw [upd_same] at q; cases q; exact new
  · rw [upd_ne hb] at q
    by_cases hbe : b = e
    · have q' : H b = some (.own x) := by
        rcases he with z | z
        · exact absurd (hbe.trans z) hb
        · rw [hbe]; exact z
      rw [q] at q'; cases q'
      obtain ⟨v, hv⟩ := heo
      exact ⟨v, by rw [hbe]; exact hv⟩
    · refine (ok b u q).stay (fun c v hc r => k c v ?_ r) (fun c r => by rw [upd_ne (nown c b r)]; exact r) fun c xs r => by rw [upd_ne (ntup c xs r)]; exact r
      rcases hc with rfl | hc
      · exact hbe
      · rintro rfl
        rcases he with z | z
        · exact nown c b hc z
        · rw [hc] at z; cases z; exact hb rfl
end

/-! ### kept unless tracked; of the frames at fs (the callers') the slots may change (an exception that passes writes there); of the records at ex (iterators) nothing is said -/
structure Un (fs ex : List Addr) (H H' : Hp) (h h' : Heap) : Prop where
  keep : ∀ b o, h.get? b = some o → H b = none → b ∉ fs → b ∉ ex → h'.get? b = some o
  slot : ∀ b o, h.get? b = some o → H b = none → b ∈ fs → b ∉ ex → ∃ sl, h'.get? b = some { o with slots := sl }
  free : ∀ b o, h.get? b = some o → H b = none → b ∉ ex → H' b = none
  there : ∀ b o, h.get? b = some o → b ∉ ex → ∃ o', h'.get? b = some o'
  tups : ∀ b xs, H b = some (.tup xs) → H' b = some (.tup xs)
  frzs : ∀ b o u, H b = some (.frz o u) → H' b = some (.frz o u)
  tbls : ∀ b ps, H b = some (.tbl ps) → ∃ more, H' b = some (.tbl (ps ++ more))
section
variable {fs fs' ex ex' : List Addr} {H H1 H2 : Hp} {h h1 h2 h' : Heap} {a x e : Addr} {o : HO}
theorem Un.any (u : Un fs ex H H1 h h1) {b : Addr} {ob : Obj} (q : h.get? b = some ob) (n : H b = none) (hx : b ∉ ex) : ∃ sl, h1.get? b = some { ob with slots := sl } := by
  by_cases hb : b ∈ fs
  · exact u.slot b ob q n hb hx
  · exact ⟨ob.slots, u.keep b ob q n hb hx⟩
theorem Un.trans (a : Un fs ex H H1 h h1) (b : Un fs ex H1 H2 h1 h2) : Un fs ex H H2 h h2 where
  keep := fun c ob q n hc hx => b.keep c ob (a.keep c ob q n hc hx) (a.free c ob q n hx) hc hx
  slot := fun c ob q n hc hx => by
    obtain ⟨sl, e1⟩ := a.slot c ob q n hc hx
    obtain ⟨sl', e2⟩ := b.slot c _ e1 (a.free c ob q n hx) hc hx
    exact ⟨sl', e2⟩
  free := fun c ob q n hx => by
    obtain ⟨o', e1⟩ := a.there c ob q hx
    exact b.free c o' e1 (a.free c ob q n hx) hx
  there := fun c ob q hx => by
    obtain ⟨o', e1⟩ := a.there c ob q hx
    exact b.there c o' e1 hx
  tups := fun c xs q => b.tups c xs (a.tups c xs q)
  frzs := fun c ob xs q => b.frzs c ob xs (a.frzs c ob xs q)
  tbls := fun c ps q => by
    obtain ⟨m1, e1⟩ := a.tbls c ps q
    obtain ⟨m2, e2⟩ := b.tbls c _ e1
    exact ⟨m1 ++ m2, by rw [e2, Array.append_assoc]⟩
theorem Un.kept (k : ∀ b u, h.get? b = some u → h'.get? b = some u) : Un fs ex H H h h' :=
  ⟨fun b ob q _ _ _ => k b ob q, fun b ob q _ _ _ => ⟨ob.slots, k b ob q⟩, fun _ _ _ n _ => n, fun b ob q _ => ⟨ob, k b ob q⟩, fun _ _ q => q, fun _ _ _ q => q, fun _ ps q => ⟨#[], by rw [q]; simp⟩⟩
theorem Un.refl : Un fs ex H H h h := Un.kept fun _ _ q => q
theorem Un.laid (k : ∀ b u, h.get? b = some u → h'.get? b = some u) (hp : h.objs.size ≤ a) (hn : H a = none) : Un fs ex H (upd H a o) h h' where
  keep := fun b u q _ _ _ => k b u q
  slot := fun b u q _ _ _ => ⟨u.slots, k b u q⟩
  free := fun b u q n _ => by rw [upd_ne (Nat.ne_of_lt (Nat.lt_of_lt_of_le (Heap.lt_size q) hp))]; exact n
  there := fun b u q _ => ⟨u, k b u q⟩
  tups := fun b xs q => by rw [upd_ne (ne_of_none q hn)]; exact q
  frzs := fun b u xs q => by rw [upd_ne (ne_of_none q hn)]; exact q
  tbls := fun b ps q => ⟨#[], by rw [upd_ne (ne_of_none q hn), q]; simp⟩
theorem Un.write (mu : Mut (H x)) (he : e = x ∨ H e = some (.own x)) (k : ∀ b u, b ≠ e → h.get? b = some u → h'.get? b = some u) (heo : ∃ u, h'.get? e = some u) : Un fs ex H (upd H x o) h h' := by
  have hx : ∀ b, H b = none → b ≠ x := fun b n z => by subst z; rw [n] at mu; exact mu
  have hb : ∀ b, H b = none → b ≠ e := fun b n z => by
    subst z
    rcases he with r | r
    · exact hx b n r
    · rw [n] at r; cases r
  have hm : ∀ b u, H b = some u → ¬ Mut (some u) → b ≠ x := fun b u q nm z => by subst z; rw [q] at mu; exact nm mu
  refine ⟨fun b u q n _ _ => k b u (hb b n) q, fun b u q n _ _ => ⟨u.slots, k b u (hb b n) q⟩, fun b u q n _ => by rw [upd_ne (hx b n)]; exact n, fun b u q _ => ?_,
    fun b xs q => by rw [upd_ne (hm b _ q fun z => z)]; exact q, fun b u xs q => by rw [upd_ne (hm b _ q fun z => z)]; exact q, fun b ps q => ⟨#[], by rw [upd_ne (hm b _ q fun z => z), q]; simp⟩⟩
  by_cases hbe : b = e
  · subst hbe; exact heo
  · exact ⟨u, k b u hbe q⟩
theorem Un.mono (u : Un fs ex H H1 h h1) (hs : ∀ b ∈ fs, b ∈ fs') (hx : ∀ b ∈ ex, b ∈ ex') : Un fs' ex' H H1 h h1 :=
  ⟨fun b ob q n hb he => u.keep b ob q n (fun z => hb (hs b z)) fun z => he (hx b z), fun _ _ q n _ he => u.any q n fun z => he (hx _ z), fun b ob q n he => u.free b ob q n fun z => he (hx b z), fun b ob q he => u.there b ob q fun z => he (hx b z), u.tups, u.frzs, u.tbls⟩
end

/-! ### the heap without what is tracked -/
def trk (h : Heap) (H : Hp) : List Addr := (List.range h.objs.size).filter fun a => (H a).isSome
def hidT (h : Heap) (H : Hp) : Heap := PySem.W.hideAll h (trk h H)
theorem hidT_size (h : Heap) (H : Hp) : (hidT h H).objs.size = h.objs.size := PySem.W.hideAll_size _ _
theorem hidT_get {h : Heap} {H : Hp} {b : Addr} {o : Obj} (e : h.get? b = some o) (n : H b = none) : (hidT h H).get? b = some o :=
  PySem.W.hideAll_get _ e fun hm => by
    have q : (H b).isSome = true := (List.mem_filter.mp hm).2
    rw [n] at q; simp at q
theorem of_hidT {h : Heap} {H : Hp} {b : Addr} {o : Obj} (e : (hidT h H).get? b = some o) : h.get? b = some o ∧ H b = none := by
  have e' : h.get? b = some o := PySem.W.of_hideAll (trk h H) e
  refine ⟨e', ?_⟩
  cases q : H b with
  | none => rfl
  | some x =>
    have hm : b ∈ trk h H := List.mem_filter.mpr ⟨List.mem_range.mpr (Heap.lt_size e'), by simp [q]⟩
    have z : (hidT h H).get? b = none := PySem.W.hideAll_none (trk h H) hm
    rw [z] at e; cases e

/-! ### OpenK's ledger, filled with every new object but one -/
def allNews (g h : Heap) (L : Addr) : List (Addr × Obj) := (List.range h.objs.size).filterMap fun a => if a = L ∨ (g.get? a).isSome = true then none else (h.get? a).map fun o => (a, o)
theorem mem_allNews {g h : Heap} {L a : Addr} {o : Obj} (h1 : a ≠ L) (h2 : g.get? a = none) (h3 : h.get? a = some o) : (a, o) ∈ allNews g h L :=
  List.mem_filterMap.mpr ⟨a, List.mem_range.mpr (Heap.lt_size h3), by simp [h1, h2, h3]⟩
theorem of_mem_allNews {g h : Heap} {L : Addr} {p : Addr × Obj} (hp : p ∈ allNews g h L) : p.1 ≠ L ∧ g.get? p.1 = none ∧ h.get? p.1 = some p.2 := by
  obtain ⟨b, _, e⟩ := List.mem_filterMap.mp hp
  split at e
  · cases e
  · rename_i hn
    cases q : h.get? b with
    | none => rw [q] at e; simp at e
    | some u =>
      rw [q] at e
      simp only [Option.map_some, Option.some.injEq] at e
      subst e
      refine ⟨fun z => hn (.inl z), ?_, q⟩
      show g.get? b = none
      cases r : g.get? b with
      | none => rfl
      | some v => exact (hn (.inr (by simp [r]))).elim
def rest (g h : Heap) (L d : Addr) : List (Addr × Obj) := (allNews g h L).filter fun p => decide (p.1 ≠ d)
theorem rest_ne {g h : Heap} {L d : Addr} : ∀ p ∈ rest g h L d, p.1 ≠ d := fun p hp => of_decide_eq_true (List.mem_filter.mp hp).2
theorem mem_rest {g h : Heap} {L d a : Addr} {o : Obj} (h1 : a ≠ L) (h2 : g.get? a = none) (h3 : h.get? a = some o) (h4 : a ≠ d) : (a, o) ∈ rest g h L d :=
  List.mem_filter.mpr ⟨mem_allNews h1 h2 h3, decide_eq_true h4⟩
theorem news_all {g h : Heap} {L : Addr} : News g L h (allNews g h L) := fun p hp => let ⟨a, b, c⟩ := of_mem_allNews hp; ⟨c, a, b⟩
theorem news_at {g h : Heap} {L d : Addr} {o : Obj} (h1 : d ≠ L) (h2 : g.get? d = none) (h3 : h.get? d = some o) : News g L h ((d, o) :: rest g h L d) := fun p hp => by
  rcases List.mem_cons.mp hp with rfl | hp
  · exact ⟨h3, h1, h2⟩
  · exact news_all p (List.mem_filter.mp hp).1
/-- behind a rule that changed d alone: all else but the frame is kept -/
theorem kept_of_news {g h h' : Heap} {L d : Addr} {m : Str → Option Value} (k : ∀ b o, g.get? b = some o → h.get? b = some o) (F : Fr g L h' m) (N : News g L h' (rest g h L d)) :
    ∀ b o, b ≠ L → b ≠ d → h.get? b = some o → h'.get? b = some o := fun b o h1 h2 e => by
  cases q : g.get? b with
  | some u =>
    have := k b u q
    rw [e] at this; cases this
    exact F.keep b _ q
  | none => exact (N (b, o) (mem_rest h1 q e h2)).1
end L2

namespace L2
open PySem PySem.Spec PyProof.Rows

/-- the module's facts, over the base: the heap at the law's entry without what is tracked there -/
structure Mod (K : PySem.W.Frag) (mg : Str → Option Value) (base : Heap) : Prop where
  kin : K.In base
  glob : base.Ns mainGlobals mg
  blt : ∃ mb, base.Ns builtinsNs mb ∧ ∀ x : Str, x ≠ "__name__" → mb x = bootBuiltins x
  nolimit : base.NoLimit

/-- the context: a def's body (or a comprehension's block) running. base: fixed through the whole law; s₀, H₀: the entry; outer: the frames whose slots others may change (a def's callers); stack: all frames that run;
   ex: iterators that were made ahead of the entry and are walked here (a comprehension's); fn: the names whose cells were made at the entry (a def: all; a comprehension's block: its own); calm: not within an except suite; pn: pins that every state bears; xe: what is wanted of an exception that leaves the code -/
structure Cx where
  prog : Program
  w : World
  K : PySem.W.Frag
  mg : Str → Option Value
  base : Heap
  A : Around
  N : List Str
  s₀ : Shared
  H₀ : Hp
  env : Env
  outer : List Env
  stack : List Env
  ex : List Addr
  fn : Str → Bool
  calm : Bool
  pn : List (Addr × Obj)
  xe : Value → Shared → Prop
/-- the callers' frames -/
def frs (l : List Env) : List Addr := l.filterMap (·.frame)
abbrev Cx.fs (X : Cx) : List Addr := frs X.outer

def Vis (sc : Scope) (x : Str) : Prop := sc.names.lookup x = some .local ∨ sc.names.lookup x = some .cell ∨ sc.names.lookup x = some .free
def Loc (sc : Scope) (x : Str) : Prop := sc.names.lookup x = some .local ∨ sc.names.lookup x = some .cell
def Look (env : Env) (h : Heap) (m : Str → Option Value) (x : Str) (u : Value) : Prop :=
  (env.kindOf x = some .local ∧ m x = some u) ∨ ((env.kindOf x = some .cell ∨ env.kindOf x = some .free) ∧ ∃ c, env.cells.lookup x = some c ∧ h.IsCell c (some u))

structure Cx.Ok (X : Cx) : Prop where
  mod : Mod X.K X.mg X.base
  kind : X.env.scope.kind = .function
  glob : X.env.globals = mainGlobals
  blt : X.env.builtins = builtinsNs
  above : X.s₀.heap.objs.size ≤ X.env.locals
  inj : ∀ x y c, X.env.cells.lookup x = some c → X.env.cells.lookup y = some c → x = y
  has : ∀ x, (X.env.kindOf x = some .cell ∨ X.env.kindOf x = some .free) → ∃ c, X.env.cells.lookup x = some c
  cab : ∀ x c, X.fn x = true → X.env.cells.lookup x = some c → X.s₀.heap.objs.size ≤ c
  hd : X.calm = true → X.A.handled = none
  frames : X.A.frames = some X.stack
  stk : X.stack = X.outer ∨ (X.stack = X.env :: X.outer ∧ X.env.frame = some X.env.locals)
  exf : ∀ b ∈ X.ex, b ≠ X.env.locals ∧ ∀ x c, X.env.cells.lookup x = some c → c ≠ b
  bs : ∀ b o, X.base.get? b = some o → X.s₀.heap.get? b = some o ∧ X.H₀ b = none
  bsz : X.base.objs.size ≤ X.s₀.heap.objs.size
  noex : ∀ b o, X.base.get? b = some o → b ∉ X.ex
  exfs : ∀ b ∈ X.ex, b ∉ X.fs
  funs : X.s₀.heap.FunFrames X.base X.outer
  frf : ∀ b ∈ X.fs, X.H₀ b = none

structure Inv (X : Cx) (pins : List (Addr × Obj)) (σ : List (Option V)) (H : Hp) (s : Shared) : Prop where
  ok : X.Ok
  os : s.os = X.s₀.os
  bare : AllBare s.gens
  base : Un X.fs X.ex X.H₀ H X.s₀.heap s.heap
  loc : ∃ m, s.heap.Ns X.env.locals m ∧ ∀ (i : Nat) (x : Str) (v : V), X.N[i]? = some x → σ[i]? = some (some v) → Vis X.env.scope x → ∃ u, RelV v u ∧ Look X.env s.heap m x u
  cell : ∀ x c, X.env.cells.lookup x = some c → ∃ v, s.heap.IsCell c v
  free : H X.env.locals = none
  freeC : ∀ x c, X.env.cells.lookup x = some c → H c = none
  pin : ∀ p ∈ X.pn ++ pins, s.heap.get? p.1 = some p.2 ∧ H p.1 = none ∧ p.1 ≠ X.env.locals ∧ p.1 ∉ X.fs ∧ ∀ v, p.2.data ≠ .cell v
  hok : HOk X.prog X.w H s.heap
  len : σ.length = X.N.length

section
variable {X : Cx} {pins : List (Addr × Obj)} {σ : List (Option V)} {H H' : Hp} {s : Shared} {h' : Heap}

theorem Cx.Ok.nofr (ok : X.Ok) {b : Addr} {o : Obj} (e : X.base.get? b = some o) : b ∉ X.fs := fun hb => by
  have := (ok.funs.mem hb).1
  rw [e] at this; cases this
theorem Inv.bs (I : Inv X pins σ H s) : ∀ b o, X.base.get? b = some o → s.heap.get? b = some o ∧ H b = none := fun b o e =>
  ⟨I.base.keep b o (I.ok.bs b o e).1 (I.ok.bs b o e).2 (I.ok.nofr e) (I.ok.noex b o e), I.base.free b o (I.ok.bs b o e).1 (I.ok.bs b o e).2 (I.ok.noex b o e)⟩
theorem Inv.bk (I : Inv X pins σ H s) : ∀ b o, X.base.get? b = some o → s.heap.get? b = some o := fun b o e => (I.bs b o e).1
theorem Inv.mod (I : Inv X pins σ H s) : Mod X.K X.mg X.base := I.ok.mod
theorem Inv.kIn (I : Inv X pins σ H s) : X.K.In s.heap := I.ok.mod.kin.keeps I.bk
theorem Inv.nolimit (I : Inv X pins σ H s) : s.heap.NoLimit := I.ok.mod.nolimit.keeps I.bk
/-- the frame over the base: for OpenK's rules (K.In X.base is I.mod.kin) -/
theorem Inv.fr (I : Inv X pins σ H s) : ∃ m, Fr X.base X.env.locals s.heap m :=
  let ⟨m, hn, _⟩ := I.loc
  ⟨m, hn, I.bk, Nat.le_trans I.ok.bsz I.ok.above⟩
theorem Inv.lt (I : Inv X pins σ H s) : X.env.locals < s.heap.objs.size := let ⟨_, hn, _⟩ := I.loc; hn.lt
theorem Inv.sz (I : Inv X pins σ H s) : X.s₀.heap.objs.size ≤ s.heap.objs.size := Nat.le_trans I.ok.above (Nat.le_of_lt I.lt)
theorem Inv.nofs (I : Inv X pins σ H s) {a : Addr} (h : s.heap.objs.size ≤ a) : a ∉ X.fs := fun hb => by
  obtain ⟨_, o, ho, _⟩ := I.ok.funs.mem hb
  exact absurd (Nat.lt_of_lt_of_le (Heap.lt_size ho) (Nat.le_trans I.sz h)) (Nat.lt_irrefl _)
theorem Inv.cne (I : Inv X pins σ H s) : ∀ x c, X.env.cells.lookup x = some c → c ≠ X.env.locals := fun x c e z => by
  obtain ⟨v, o, ho, hd⟩ := I.cell x c e
  obtain ⟨m, ⟨o', es, ep, ho', hd', _⟩, _⟩ := I.loc
  rw [z, ho'] at ho; cases ho; rw [hd'] at hd; cases hd
theorem Inv.funs (I : Inv X pins σ H s) : s.heap.FunFrames X.base X.outer := by
  have all : ∀ (l : List Env), (∀ b ∈ frs l, b ∈ X.fs) → X.s₀.heap.FunFrames X.base l → s.heap.FunFrames X.base l := by
    intro l
    induction l with
    | nil => intro _ _; trivial
    | cons env r ih =>
      intro hs hl
      obtain ⟨hk, ⟨L, o, hf, hn, ho, hd⟩, hr⟩ := hl
      have hL : L ∈ X.fs := hs L (by unfold frs; rw [List.filterMap_cons, hf]; exact List.mem_cons_self)
      obtain ⟨sl, e⟩ := I.base.slot L o ho (I.ok.frf L hL) hL fun z => I.ok.exfs L z hL
      exact ⟨hk, ⟨L, _, hf, hn, e, hd⟩, ih (fun b hb => hs b (by unfold frs; rw [List.filterMap_cons, hf]; exact List.mem_cons_of_mem _ hb)) hr⟩
  exact all X.outer (fun _ hb => hb) I.ok.funs

/-- the frames that run, for a call -/
theorem Inv.stack (I : Inv X pins σ H s) : s.heap.FunFrames X.base X.stack := by
  rcases I.ok.stk with e | ⟨e, hf⟩
  · rw [e]; exact I.funs
  · rw [e]
    obtain ⟨m, hn, _⟩ := I.loc
    refine .cons (by rw [I.ok.kind]; decide) hf hn ?_ I.funs
    exact Heap.get?_none_of_le (Nat.le_trans I.ok.bsz I.ok.above)
theorem Inv.stkSub (I : Inv X pins σ H s) : ∀ b ∈ frs X.stack, b ∈ X.env.locals :: X.fs := fun b hb => by
  rcases I.ok.stk with e | ⟨e, hf⟩
  · rw [e] at hb; exact List.mem_cons_of_mem _ hb
  · rw [e] at hb
    unfold frs at hb
    rw [List.filterMap_cons, hf] at hb
    exact hb
theorem Inv.stkFree (I : Inv X pins σ H s) : ∀ b ∈ frs X.stack, H b = none := fun b hb => by
  rcases List.mem_cons.mp (I.stkSub b hb) with e | hb
  · rw [e]; exact I.free
  · obtain ⟨_, o, ho, _⟩ := I.ok.funs.mem hb
    exact I.base.free b o ho (I.ok.frf b hb) fun z => I.ok.exfs b z hb

/-- THE STEP: the untracked objects but the frame and the records at ch are kept (the callers' frames up to slots), the frame's map is kept, the new abstract heap is held -/
theorem Inv.step {g' : Array GenState} {t' : Nat} {d' : Drawn} {ch : List Addr} (I : Inv X pins σ H s)
    (hch : ∀ b ∈ ch, (b ∈ X.ex ∨ X.s₀.heap.objs.size ≤ b) ∧ b ≠ X.env.locals ∧ (∀ x c, X.env.cells.lookup x = some c → c ≠ b) ∧ ∀ p ∈ X.pn ++ pins, p.1 ≠ b)
    (keep : ∀ b o, b ≠ X.env.locals → b ∉ X.fs → b ∉ ch → s.heap.get? b = some o → H b = none → h'.get? b = some o)
    (slot : ∀ b o, b ≠ X.env.locals → b ∈ X.fs → b ∉ ch → s.heap.get? b = some o → H b = none → ∃ sl, h'.get? b = some { o with slots := sl }) (free : ∀ b o, b ∉ ch → s.heap.get? b = some o → H b = none → H' b = none)
    (there : ∀ b o, b ∉ ch → s.heap.get? b = some o → ∃ o', h'.get? b = some o')
    (tups : ∀ b xs, H b = some (.tup xs) → H' b = some (.tup xs)) (frzs : ∀ b o u, H b = some (.frz o u) → H' b = some (.frz o u)) (tbls : ∀ b ps, H b = some (.tbl ps) → ∃ more, H' b = some (.tbl (ps ++ more)))
    (ns : ∀ m, s.heap.Ns X.env.locals m → h'.Ns X.env.locals m) (hok : HOk X.prog X.w H' h') (hg : AllBare g') :
    Inv X pins σ H' { s with heap := h', gens := g', drawn := d', toks := t' } := by
  have neL : ∀ b o, X.s₀.heap.get? b = some o → b ≠ X.env.locals := fun b o e => Nat.ne_of_lt (Nat.lt_of_lt_of_le (Heap.lt_size e) I.ok.above)
  have neC : ∀ b o, X.s₀.heap.get? b = some o → b ∉ X.ex → b ∉ ch := fun b o e hx hb => by
    rcases (hch b hb).1 with z | z
    · exact hx z
    · exact absurd (Nat.lt_of_lt_of_le (Heap.lt_size e) z) (Nat.lt_irrefl _)
  have cellK : ∀ x c, X.env.cells.lookup x = some c → ∀ v, s.heap.IsCell c v → h'.IsCell c v := fun x c e v ⟨o, ho, hd⟩ => by
    have nch : c ∉ ch := fun z => (hch c z).2.2.1 x c e rfl
    by_cases hc : c ∈ X.fs
    · obtain ⟨sl, q⟩ := slot c o (I.cne x c e) hc nch ho (I.freeC x c e)
      exact ⟨_, q, hd⟩
    · exact ⟨o, keep c o (I.cne x c e) hc nch ho (I.freeC x c e), hd⟩
  refine ⟨I.ok, I.os, hg, ⟨fun b o e n hb hx => ?_, fun b o e n hb hx => ?_, fun b o e n hx => ?_, fun b o e hx => ?_, fun b xs e => tups b xs (I.base.tups b xs e), fun b o xs e => frzs b o xs (I.base.frzs b o xs e), fun b ps e => ?_⟩, ?_, fun x c e => ?_, ?_, fun x c e => ?_, fun p hp => ?_, hok, I.len⟩
  · exact keep b o (neL b o e) hb (neC b o e hx) (I.base.keep b o e n hb hx) (I.base.free b o e n hx)
  · obtain ⟨sl, e1⟩ := I.base.slot b o e n hb hx
    obtain ⟨sl', e2⟩ := slot b _ (neL b o e) hb (neC b o e hx) e1 (I.base.free b o e n hx)
    exact ⟨sl', e2⟩
  · obtain ⟨o', e1⟩ := I.base.there b o e hx
    exact free b o' (neC b o e hx) e1 (I.base.free b o e n hx)
  · obtain ⟨o', e1⟩ := I.base.there b o e hx
    exact there b o' (neC b o e hx) e1
  · obtain ⟨m1, e1⟩ := I.base.tbls b ps e
    obtain ⟨m2, e2⟩ := tbls b _ e1
    exact ⟨m1 ++ m2, by rw [e2, Array.append_assoc]⟩
  · obtain ⟨m, hn, hl⟩ := I.loc
    refine ⟨m, ns m hn, fun i x v e1 e2 e3 => ?_⟩
    obtain ⟨u, r, l⟩ := hl i x v e1 e2 e3
    refine ⟨u, r, ?_⟩
    rcases l with l | ⟨k, c, e, z⟩
    · exact .inl l
    · exact .inr ⟨k, c, e, cellK x c e _ z⟩
  · obtain ⟨v, z⟩ := I.cell x c e
    exact ⟨v, cellK x c e v z⟩
  · obtain ⟨m, ⟨o, _, _, ho, _⟩, _⟩ := I.loc
    exact free _ o (fun z => (hch _ z).2.1 rfl) ho I.free
  · obtain ⟨v, o, ho, hd⟩ := I.cell x c e
    exact free c o (fun z => (hch c z).2.2.1 x c e rfl) ho (I.freeC x c e)
  · obtain ⟨e, n, ne, nf, d⟩ := I.pin p hp
    have nch : p.1 ∉ ch := fun z => (hch p.1 z).2.2.2 p hp rfl
    exact ⟨keep p.1 p.2 ne nf nch e n, free p.1 p.2 nch e n, ne, nf, d⟩
/-- .. where the frame's own object is kept too -/
theorem Inv.un {t' : Nat} (I : Inv X pins σ H s) (u : Un X.fs [] H H' s.heap h') (hok : HOk X.prog X.w H' h') : Inv X pins σ H' { s with heap := h', toks := t' } := by
  obtain ⟨m, ⟨o, es, ep, ho, r⟩, _⟩ := id I.loc
  obtain ⟨sl, hL⟩ := u.any ho I.free (by simp)
  exact I.step (g' := s.gens) (d' := s.drawn) (ch := []) (fun _ z => nomatch z) (fun b o _ hb _ e n => u.keep b o e n hb (by simp)) (fun b o _ hb _ e n => u.slot b o e n hb (by simp)) (fun b o _ e n => u.free b o e n (by simp)) (fun b o _ e => u.there b o e (by simp)) u.tups u.frzs u.tbls (fun m' hm => by
    obtain ⟨o', es', ep', ho', r'⟩ := hm
    rw [ho] at ho'; cases ho'
    exact ⟨_, es', ep', hL, r'⟩) hok I.bare
/-- behind a call (or a comprehension's block): the slots of this frame may have changed too, the records at ch may have turned -/
theorem Inv.call {g' : Array GenState} {t' : Nat} {d' : Drawn} {ch : List Addr} (I : Inv X pins σ H s) (u : Un (frs X.stack) ch H H' s.heap h') (hok : HOk X.prog X.w H' h') (hg : AllBare g')
    (hch : ∀ b ∈ ch, (b ∈ X.ex ∨ X.s₀.heap.objs.size ≤ b) ∧ b ≠ X.env.locals ∧ (∀ x c, X.env.cells.lookup x = some c → c ≠ b) ∧ ∀ p ∈ X.pn ++ pins, p.1 ≠ b) :
    Inv X pins σ H' { s with heap := h', gens := g', drawn := d', toks := t' } := by
  obtain ⟨m, ⟨o, es, ep, ho, r⟩, _⟩ := id I.loc
  obtain ⟨sl, hL⟩ := u.any ho I.free fun z => (hch _ z).2.1 rfl
  exact I.step (ch := ch) hch (fun b o hL hb hc e n => u.keep b o e n (fun z => (List.mem_cons.mp (I.stkSub b z)).elim hL hb) hc) (fun b o _ _ hc e n => u.any e n hc) (fun b o hc e n => u.free b o e n hc) (fun b o hc e => u.there b o e hc) u.tups u.frzs u.tbls (fun m' hm => by
    obtain ⟨o', es', ep', ho', r'⟩ := hm
    rw [ho] at ho'; cases ho'
    exact ⟨_, es', ep', hL, r'⟩) hok hg
/-- an untracked record of ours (an iterator) has turned -/
theorem Inv.turned {t' : Nat} {it : Addr} (I : Inv X pins σ H s) (k : ∀ b o, b ≠ it → s.heap.get? b = some o → h'.get? b = some o) (hn : H it = none) (hL : it ≠ X.env.locals)
    (h1 : it ∈ X.ex ∨ X.s₀.heap.objs.size ≤ it) (h2 : ∀ x c, X.env.cells.lookup x = some c → c ≠ it) (h3 : ∀ p ∈ X.pn ++ pins, p.1 ≠ it) : Inv X pins σ H { s with heap := h', toks := t' } := by
  have nit : ∀ b u, H b = some u → b ≠ it := fun b u e z => by rw [z, hn] at e; cases e
  refine I.step (g' := s.gens) (d' := s.drawn) (ch := [it]) (fun b hb => ?_) (fun b o _ _ hc e _ => k b o (fun z => hc (by simp [z])) e) (fun b o _ _ hc e _ => ⟨o.slots, k b o (fun z => hc (by simp [z])) e⟩) (fun _ _ _ _ n => n)
    (fun b o hc e => ⟨o, k b o (fun z => hc (by simp [z])) e⟩) (fun _ _ e => e) (fun _ _ _ e => e) (fun b ps e => ⟨#[], by rw [e]; simp⟩) (fun m hm => ?_) (fun b u e => ?_) I.bare
  · have e : b = it := by simpa using hb
    subst e
    exact ⟨h1, hL, h2, h3⟩
  · obtain ⟨o, es, ep, ho, r⟩ := hm
    exact ⟨o, es, ep, k _ o (Ne.symm hL) ho, r⟩
  · refine (I.hok b u e).stay (fun c v hc q => k c v ?_ q) (fun _ q => q) fun _ _ q => q
    rcases hc with z | z
    · rw [z]; exact nit b u e
    · exact nit c _ z
theorem Inv.tok (I : Inv X pins σ H s) (t : Nat) : Inv X pins σ H { s with toks := t } := I.un (h' := s.heap) (t' := t) Un.refl I.hok
/-- all objects kept -/
theorem Inv.kept {t' : Nat} (I : Inv X pins σ H s) (k : ∀ b u, s.heap.get? b = some u → h'.get? b = some u) : Inv X pins σ H { s with heap := h', toks := t' } := I.un (Un.kept k) (I.hok.kept k)
/-- a new object laid and tracked -/
theorem Inv.laid {a : Addr} {o : HO} {t' : Nat} (I : Inv X pins σ H s) (k : ∀ b u, s.heap.get? b = some u → h'.get? b = some u) (hp : s.heap.objs.size ≤ a) (new : ObjOk X.prog X.w (upd H a o) h' a o) :
    Inv X pins σ (upd H a o) { s with heap := h', toks := t' } := I.un (Un.laid k hp (I.hok.fresh hp)) (I.hok.laid k hp new)
/-- an object written -/
theorem Inv.write {x e : Addr} {o : HO} {t' : Nat} (I : Inv X pins σ H s) (mu : Mut (H x)) (he : e = x ∨ H e = some (.own x)) (k : ∀ b u, b ≠ e → s.heap.get? b = some u → h'.get? b = some u) (heo : ∃ u, h'.get? e = some u)
    (new : ObjOk X.prog X.w (upd H x o) h' x o) : Inv X pins σ (upd H x o) { s with heap := h', toks := t' } := I.un (Un.write mu he k heo) (I.hok.write mu he k heo new)
/-- forgetting slots, pins -/
theorem Inv.weak {σ' : List (Option V)} (I : Inv X pins σ H s) (hl : σ'.length = σ.length) (w : ∀ (i : Nat) v, σ'[i]? = some (some v) → σ[i]? = some (some v)) : Inv X pins σ' H s :=
  ⟨I.ok, I.os, I.bare, I.base, let ⟨m, hn, hl'⟩ := I.loc; ⟨m, hn, fun i x v e1 e2 e3 => hl' i x v e1 (w i v e2) e3⟩, I.cell, I.free, I.freeC, I.pin, I.hok, hl.trans I.len⟩
theorem Inv.pins_of {pins' : List (Addr × Obj)} (I : Inv X pins σ H s) (h : ∀ p ∈ pins', s.heap.get? p.1 = some p.2 ∧ H p.1 = none ∧ p.1 ≠ X.env.locals ∧ p.1 ∉ X.fs ∧ ∀ v, p.2.data ≠ .cell v) : Inv X pins' σ H s :=
  ⟨I.ok, I.os, I.bare, I.base, I.loc, I.cell, I.free, I.freeC, fun p hp => (List.mem_append.mp hp).elim (fun z => I.pin p (List.mem_append_left _ z)) (h p), I.hok, I.len⟩

theorem nodup_ix {N : List Str} (hN : N.Nodup) {i j : Nat} {x : Str} (a : N[i]? = some x) (b : N[j]? = some x) : i = j := by
  obtain ⟨h1, e1⟩ := List.getElem?_eq_some_iff.mp a
  obtain ⟨h2, e2⟩ := List.getElem?_eq_some_iff.mp b
  exact (List.getElem_inj hN).mp (e1.trans e2.symm)

/-- a name is stored; what changed -/
theorem store_ok2 {M : Model} {A : Around} {E : Value → Shared → Prop} {i : Nat} {x : Str} {v : V} {u : Value} {Q : Unit → Shared → Prop} (I : Inv X pins σ H s) (hN : X.N.Nodup) (hi : X.N[i]? = some x) (hx : Loc X.env.scope x) (r : RelV v u)
    (h : ∀ s', Inv X pins (σ.set i (some v)) H s' → (∃ a, Heap.SameBut a s.heap s'.heap ∧ (a = X.env.locals ∨ X.env.cells.lookup x = some a)) → Q () s') (hf : X.fn x = true ∨ X.env.scope.names.lookup x = some .local := by first | exact .inl rfl | exact .inr rfl | assumption) : wpAny M A (storeName X.env x u) Q E s := by
  obtain ⟨m, hn, hl⟩ := id I.loc
  have hcls : (X.env.scope.kind == .class || (X.env.scope.kind == .module && X.env.locals != X.env.globals)) = false := by rw [I.ok.kind]; rfl
  have hiσ : i < σ.length := by rw [I.len]; exact (List.getElem?_eq_some_iff.mp hi).1
  have cne := I.cne
  have tracked : ∀ {a : Addr} {h' : Heap}, (∃ o, s.heap.get? a = some o ∧ H a = none) → Heap.SameBut a s.heap h' → HOk X.prog X.w H h' := fun {a h'} ha hs b ob e => by
    obtain ⟨_, _, hfree⟩ := ha
    refine (I.hok b ob e).stay (fun c w' hc q => (hs.2 c ?_).trans q) (fun _ q => q) fun _ _ q => q
    rintro rfl
    rcases hc with rfl | hc
    · rw [hfree] at e; cases e
    · rw [hfree] at hc; cases hc
  rcases hx with hk | hk
  · refine wpAny_storeName_local hk hn (fun h' hn' hs => ?_) hcls
    obtain ⟨oL, _, _, hoL, _⟩ := id hn
    refine h _ ⟨I.ok, I.os, I.bare, ⟨fun b o e n hb hx => ?_, fun b o e n hb hx => ?_, I.base.free, fun b o e hx => ?_, I.base.tups, I.base.frzs, I.base.tbls⟩, ⟨_, hn', fun j y v' e1 e2 e3 => ?_⟩, fun y c e => ?_, I.free, I.freeC, fun p hp => ?_, tracked ⟨oL, hoL, I.free⟩ hs, by simpa using I.len⟩ ⟨_, hs, .inl rfl⟩
    · exact (hs.2 b (Nat.ne_of_lt (Nat.lt_of_lt_of_le (Heap.lt_size e) I.ok.above))).trans (I.base.keep b o e n hb hx)
    · obtain ⟨sl, e1⟩ := I.base.slot b o e n hb hx
      exact ⟨sl, (hs.2 b (Nat.ne_of_lt (Nat.lt_of_lt_of_le (Heap.lt_size e) I.ok.above))).trans e1⟩
    · obtain ⟨o', e1⟩ := I.base.there b o e hx
      exact ⟨o', (hs.2 b (Nat.ne_of_lt (Nat.lt_of_lt_of_le (Heap.lt_size e) I.ok.above))).trans e1⟩
    · by_cases hj : j = i
      · subst hj
        rw [hi] at e1; cases e1
        rw [List.getElem?_set_self hiσ] at e2
        cases e2
        exact ⟨u, r, .inl ⟨hk, by simp⟩⟩
      · rw [List.getElem?_set_ne (Ne.symm hj)] at e2
        obtain ⟨u', r', q⟩ := hl j y v' e1 e2 e3
        refine ⟨u', r', ?_⟩
        rcases q with ⟨k, e⟩ | ⟨k, c, e, z⟩
        · refine .inl ⟨k, ?_⟩
          have : y ≠ x := fun e => hj (nodup_ix hN e1 (e ▸ hi))
          simp [this, e]
        · exact .inr ⟨k, c, e, z.sameBut hs (cne y c e)⟩
    · obtain ⟨w', z⟩ := I.cell y c e
      exact ⟨w', z.sameBut hs (cne y c e)⟩
    · obtain ⟨e, n, ne, nf, d⟩ := I.pin p hp
      exact ⟨(hs.2 p.1 ne).trans e, n, ne, nf, d⟩
  · have hfn : X.fn x = true := by
      rcases hf with z | z
      · exact z
      · rw [z] at hk; cases hk
    obtain ⟨c, hc⟩ := I.ok.has x (.inl hk)
    obtain ⟨w', z⟩ := I.cell x c hc
    refine wpAny_storeName_cell I.ok.kind hk hc z (fun h' hc' hs => ?_)
    obtain ⟨oc, hoc, hocd⟩ := id z
    refine h { s with heap := h' } ⟨I.ok, I.os, I.bare, ⟨fun b o e n hb hx => ?_, fun b o e n hb hx => ?_, I.base.free, fun b o e hx => ?_, I.base.tups, I.base.frzs, I.base.tbls⟩, ⟨m, hn.sameBut hs (Ne.symm (cne x c hc)), fun j y v' e1 e2 e3 => ?_⟩, fun y c' e => ?_, I.free, I.freeC, fun p hp => ?_, tracked ⟨oc, hoc, I.freeC x c hc⟩ hs, by simpa using I.len⟩ ⟨c, hs, .inr hc⟩
    · exact (hs.2 b (Nat.ne_of_lt (Nat.lt_of_lt_of_le (Heap.lt_size e) (I.ok.cab x c hfn hc)))).trans (I.base.keep b o e n hb hx)
    · obtain ⟨sl, e1⟩ := I.base.slot b o e n hb hx
      exact ⟨sl, (hs.2 b (Nat.ne_of_lt (Nat.lt_of_lt_of_le (Heap.lt_size e) (I.ok.cab x c hfn hc)))).trans e1⟩
    · obtain ⟨o', e1⟩ := I.base.there b o e hx
      exact ⟨o', (hs.2 b (Nat.ne_of_lt (Nat.lt_of_lt_of_le (Heap.lt_size e) (I.ok.cab x c hfn hc)))).trans e1⟩
    · by_cases hj : j = i
      · subst hj
        rw [hi] at e1; cases e1
        rw [List.getElem?_set_self hiσ] at e2
        cases e2
        exact ⟨u, r, .inr ⟨.inl hk, c, hc, hc'⟩⟩
      · rw [List.getElem?_set_ne (Ne.symm hj)] at e2
        obtain ⟨u', r', q⟩ := hl j y v' e1 e2 e3
        refine ⟨u', r', ?_⟩
        rcases q with q | ⟨k, c', e, z'⟩
        · exact .inl q
        · refine .inr ⟨k, c', e, z'.sameBut hs ?_⟩
          rintro rfl
          exact hj (nodup_ix hN e1 (I.ok.inj _ _ _ e hc ▸ hi))
    · by_cases hcc : c' = c
      · subst hcc; exact ⟨_, hc'⟩
      · obtain ⟨w2, z2⟩ := I.cell y c' e
        exact ⟨w2, z2.sameBut hs hcc⟩
    · obtain ⟨e, n, ne, nf, d⟩ := I.pin p hp
      refine ⟨(hs.2 p.1 ?_).trans e, n, ne, nf, d⟩
      intro q
      rw [q, hoc] at e
      have q' : oc = p.2 := Option.some.inj e
      exact d w' (by rw [← q']; exact hocd)
theorem store_ok {M : Model} {A : Around} {E : Value → Shared → Prop} {i : Nat} {x : Str} {v : V} {u : Value} {Q : Unit → Shared → Prop} (I : Inv X pins σ H s) (hN : X.N.Nodup) (hi : X.N[i]? = some x) (hx : Loc X.env.scope x) (r : RelV v u)
    (h : ∀ s', Inv X pins (σ.set i (some v)) H s' → Q () s') (hf : X.fn x = true ∨ X.env.scope.names.lookup x = some .local := by first | exact .inl rfl | exact .inr rfl | assumption) : wpAny M A (storeName X.env x u) Q E s :=
  store_ok2 I hN hi hx r (fun s' I' _ => h s' I') hf
/-- behind a call or a block, the state as it is -/
theorem Inv.call' {s' : Shared} {ch : List Addr} (I : Inv X pins σ H s) (ho : s'.os = s.os) (u : Un (frs X.stack) ch H H' s.heap s'.heap) (hok : HOk X.prog X.w H' s'.heap) (hg : AllBare s'.gens)
    (hch : ∀ b ∈ ch, (b ∈ X.ex ∨ X.s₀.heap.objs.size ≤ b) ∧ b ≠ X.env.locals ∧ (∀ x c, X.env.cells.lookup x = some c → c ≠ b) ∧ ∀ p ∈ X.pn ++ pins, p.1 ≠ b) : Inv X pins σ H' s' := by
  obtain ⟨h', g', d', t', o'⟩ := s'
  have e : o' = s.os := ho
  subst e
  exact I.call (g' := g') (t' := t') (d' := d') u hok hg hch
end

/-! ### the judgements -/
/-- an exception: its class, its own dict's address (where it has one), the abstract heap behind it -/
abbrev XK := Value → Option Addr → Hp → Prop
abbrev St := List (Option V)
abbrev VK := V → Hp → Prop
/-- an expression's reading; a test's; an argument list's -/
abbrev TE := St → Hp → VK → Prop
abbrev TT := St → Hp → (Bool → Hp → Prop) → Prop
abbrev TA := St → Hp → (List V → Hp → Prop) → Prop
/-- what is wanted behind a statement -/
structure Ends where
  nx : St → Hp → Prop
  rt : VK
  bk : St → Hp → Prop := fun _ _ => False
  ct : St → Hp → Prop := fun _ _ => False
abbrev TS := Ends → St → Hp → Prop

def EP (X : Cx) (pins : List (Addr × Obj)) (σ : St) (Q : VK) (u : Value) (s' : Shared) : Prop := ∃ v H', Inv X pins σ H' s' ∧ RelV v u ∧ Q v H'
def TP (X : Cx) (pins : List (Addr × Obj)) (σ : St) (Q : Bool → Hp → Prop) (b : Bool) (s' : Shared) : Prop := ∃ H', Inv X pins σ H' s' ∧ Q b H'
def AP (X : Cx) (pins : List (Addr × Obj)) (σ : St) (Q : List V → Hp → Prop) (us : List Value) (s' : Shared) : Prop := ∃ vs H', Inv X pins σ H' s' ∧ Vals vs us ∧ Q vs H'
def SP (X : Cx) (pins : List (Addr × Obj)) (D : Ends) (f : Flow) (s' : Shared) : Prop :=
  match f with
  | .next => ∃ σ' H', Inv X pins σ' H' s' ∧ D.nx σ' H'
  | .brk => ∃ σ' H', Inv X pins σ' H' s' ∧ D.bk σ' H'
  | .cont => ∃ σ' H', Inv X pins σ' H' s' ∧ D.ct σ' H'
  | .ret u => ∃ v σ' H', Inv X pins σ' H' s' ∧ RelV v u ∧ D.rt v H'

def PE (X : Cx) (e : Expr) (t : TE) : Prop :=
  ∀ (pins : List (Addr × Obj)) (s : Shared) (σ : St) (H : Hp) (Q : VK), Inv X pins σ H s → t σ H Q → wpAny (model X.prog X.w) X.A (eval e X.env) (EP X pins σ Q) X.xe s
def PT (X : Cx) (e : Expr) (t : TT) : Prop :=
  ∀ (pins : List (Addr × Obj)) (s : Shared) (σ : St) (H : Hp) (Q : Bool → Hp → Prop), Inv X pins σ H s → t σ H Q → wpAny (model X.prog X.w) X.A (isTrue e X.env (eval e X.env)) (TP X pins σ Q) X.xe s
/-- a test whatever its 'whole' is (and, or) -/
def PW (X : Cx) (e : Expr) (t : TT) : Prop :=
  ∀ (whole : Sem Value) (pins : List (Addr × Obj)) (s : Shared) (σ : St) (H : Hp) (Q : Bool → Hp → Prop), Inv X pins σ H s → t σ H Q → wpAny (model X.prog X.w) X.A (isTrue e X.env whole) (TP X pins σ Q) X.xe s
theorem PW.pt {X : Cx} {e : Expr} {t : TT} (h : PW X e t) : PT X e t := h _
/-- an argument list (no star), from the left -/
def PA (X : Cx) (es : List Expr) (t : TA) : Prop :=
  ∀ (pos : Pos) (pins : List (Addr × Obj)) (s : Shared) (σ : St) (H : Hp) (Q : List V → Hp → Prop), Inv X pins σ H s → t σ H Q → wpAny (model X.prog X.w) X.A (spliced (backTo pos (starEach es X.env))) (AP X pins σ Q) X.xe s
def PS (X : Cx) (st : Stmt) (t : TS) : Prop :=
  ∀ (pins : List (Addr × Obj)) (s : Shared) (σ : St) (H : Hp) (D : Ends), Inv X pins σ H s → t D σ H → wpAny (model X.prog X.w) X.A (exec st X.env) (SP X pins D) X.xe s
def PSs (X : Cx) (st : List Stmt) (t : TS) : Prop :=
  ∀ (pins : List (Addr × Obj)) (s : Shared) (σ : St) (H : Hp) (D : Ends), Inv X pins σ H s → t D σ H → wpAny (model X.prog X.w) X.A (execs st X.env) (SP X pins D) X.xe s
/-- weaken the end -/
theorem thn {α : Type} {t : Sem α} {Q Q' : α → Shared → Prop} {M : Model} {A : Around} {E : Value → Shared → Prop} {s : Shared} (h : wpAny M A t Q E s) (hQ : ∀ a s, Q a s → Q' a s) : wpAny M A t Q' E s := wpAny_mono h hQ fun _ _ x => x
end L2

namespace L2
open PySem PySem.Spec PyProof.Rows
section
variable {X : Cx}

/-- two expressions in a row -/
theorem bin {a b : Expr} {ta tb : TE} (ha : PE X a ta) (hb : PE X b tb) {pins : List (Addr × Obj)} {s : Shared} {σ : St} {H : Hp} {R : V → V → Hp → Prop} (I : Inv X pins σ H s) (h : ta σ H fun x H1 => tb σ H1 fun y H2 => R x y H2)
    {α : Type} {Q : α → Shared → Prop} {f : Value → Value → Sem α}
    (hf : ∀ v u s2 x y H2, Inv X pins σ H2 s2 → RelV x v → RelV y u → R x y H2 → wpAny (model X.prog X.w) X.A (f v u) Q X.xe s2) :
    wpAny (model X.prog X.w) X.A (eval a X.env) (fun v s₁ => wpAny (model X.prog X.w) X.A (eval b X.env) (fun u s₂ => wpAny (model X.prog X.w) X.A (f v u) Q X.xe s₂) X.xe s₁) X.xe s := by
  refine thn (ha pins s σ H _ I h) fun v s1 ⟨x, H1, I1, r1, q1⟩ => ?_
  refine thn (hb pins s1 σ H1 _ I1 q1) fun u s2 ⟨y, H2, I2, r2, q2⟩ => ?_
  exact hf v u s2 x y H2 I2 r1 r2 q2

/-! ### names and constants -/
def tVar (i : Nat) : TE := fun σ H Q => ∃ v, σ[i]? = some (some v) ∧ Q v H
def tC (v : V) : TE := fun _ H Q => Q v H
theorem pe_var {i : Nat} {x : Str} {pos : Pos} (hN : X.N[i]? = some x) (hv : Vis X.env.scope x) (hd : (x == ("__debug__" : Str)) = false := by decide) (hcd : (x == ("__classdict__" : Str)) = false := by decide) : PE X (.Name x pos) (tVar i) := by
  intro pins s σ H Q I h
  obtain ⟨v, e, h⟩ := h
  obtain ⟨m, hn, hl⟩ := I.loc
  obtain ⟨u, r, l⟩ := hl i x v hN e hv
  have fin : EP X pins σ Q u s := ⟨v, H, I, r, h⟩
  rcases l with ⟨hk, hm⟩ | ⟨hk, c, hc, hcell⟩
  · exact wpAny_Name (wpAny_loadName_local I.ok.kind hk hn hm fin) hd
  · rcases hk with hk | hk
    · exact wpAny_Name (wpAny_loadName_cell I.ok.kind hk hc hcell fin) hd
    · exact wpAny_Name (wpAny_loadName_free I.ok.kind hk hc hcell fin hcd) hd
theorem pe_int {i j pos} : PE X (.Constant (.int i) j pos) (tC (.int i)) := fun _ _ _ H _ I h => wpAny_Constant_int ⟨.int i, H, I.tok _, ⟨_, rfl⟩, h⟩
theorem pe_bl {b j pos} : PE X (.Constant (.bool b) j pos) (tC (.bl b)) := fun _ _ _ H _ I h => Constant_bool ⟨.bl b, H, I, rfl, h⟩
theorem pe_non {j pos} : PE X (.Constant .none j pos) (tC .non) := fun _ _ _ H _ I h => Constant_none ⟨.non, H, I, rfl, h⟩
theorem pe_str {x j pos} : PE X (.Constant (.str x) j pos) (tC (.str x)) := fun _ _ _ H _ I h => Calls.Constant_str ⟨.str x, H, I.tok _, ⟨_, rfl⟩, h⟩

/-- a global name of the def -/
def Gl (X : Cx) (x : Str) : Prop := X.env.kindOf x = some .globalImplicit
theorem ld_glob {E : Value → Shared → Prop} {pins : List (Addr × Obj)} {s : Shared} {σ : St} {H : Hp} {x : Str} {u : Value} {pos : Pos} {Q : Value → Shared → Prop} (I : Inv X pins σ H s) (hg : Gl X x) (hm : X.mg x = some u) (h : Q u s)
    (hd : (x == ("__debug__" : Str)) = false := by decide) : wpAny (model X.prog X.w) X.A (eval (.Name x pos) X.env) Q E s :=
  Calls.Name_function_global I.ok.kind hg (Calls.loadGlobal_global (by rw [I.ok.glob]; exact I.mod.glob.keeps I.bk) hm h) hd
theorem ld_blt {E : Value → Shared → Prop} {pins : List (Addr × Obj)} {s : Shared} {σ : St} {H : Hp} {x : Str} {u : Value} {pos : Pos} {Q : Value → Shared → Prop} (I : Inv X pins σ H s) (hg : Gl X x) (hm : X.mg x = none) (hv : bootBuiltins x = some u) (h : Q u s)
    (hn : x ≠ "__name__" := by decide) (hd : (x == ("__debug__" : Str)) = false := by decide) : wpAny (model X.prog X.w) X.A (eval (.Name x pos) X.env) Q E s := by
  obtain ⟨mb, h1, h2⟩ := I.mod.blt
  exact Calls.Name_function_global I.ok.kind hg (Calls.loadGlobal_builtin (by rw [I.ok.glob]; exact I.mod.glob.keeps I.bk) hm (by rw [I.ok.blt]; exact h1.keeps I.bk) ((h2 x hn).trans hv) h) hd
/-- a module's constant, a class, a function, as a value -/
theorem pe_glob {x : Str} {v : V} {u : Value} {pos : Pos} (hg : Gl X x) (hm : X.mg x = some u) (r : RelV v u) (hd : (x == ("__debug__" : Str)) = false := by decide) : PE X (.Name x pos) (tC v) :=
  fun _ _ _ H _ I h => ld_glob I hg hm ⟨v, H, I, r, h⟩ hd
theorem pe_bltn {x : Str} {v : V} {u : Value} {pos : Pos} (hg : Gl X x) (hm : X.mg x = none) (hv : bootBuiltins x = some u) (r : RelV v u) (hn : x ≠ "__name__" := by decide) (hd : (x == ("__debug__" : Str)) = false := by decide) : PE X (.Name x pos) (tC v) :=
  fun _ _ _ H _ I h => ld_blt I hg hm hv ⟨v, H, I, r, h⟩ hn hd

/-! ### arithmetic -/
/-- two ints -/
def t2I (ta tb : TE) (k : Int → Int → Hp → Prop) : St → Hp → Prop := fun σ H => ta σ H fun x H1 => tb σ H1 fun y H2 => ∃ i j, x = .int i ∧ y = .int j ∧ k i j H2
def tAdd (ta tb : TE) : TE := fun σ H Q => t2I ta tb (fun i j H2 => Q (.int (i + j)) H2) σ H
def tSub (ta tb : TE) : TE := fun σ H Q => t2I ta tb (fun i j H2 => Q (.int (i - j)) H2) σ H
/-- the left factor below 2^64 -/
def tMul (ta tb : TE) : TE := fun σ H Q => t2I ta tb (fun i j H2 => (-(2 ^ 64) < i ∧ i < 2 ^ 64) ∧ Q (.int (i * j)) H2) σ H
variable {a b : Expr} {ta tb : TE} {pos : Pos}
theorem pe_add (ha : PE X a ta) (hb : PE X b tb) : PE X (.BinOp a .Add b pos) (tAdd ta tb) := by
  intro pins s σ H Q I h
  refine wpAny_BinOp (bin ha hb I h fun v u s2 x y H2 I2 rx ry q => ?_)
  obtain ⟨i, j, rfl, rfl, q⟩ := q
  obtain ⟨t, rfl⟩ := rx
  obtain ⟨t', rfl⟩ := ry
  exact add_int ⟨.int _, H2, I2.tok _, ⟨_, rfl⟩, q⟩
theorem pe_sub (ha : PE X a ta) (hb : PE X b tb) : PE X (.BinOp a .Sub b pos) (tSub ta tb) := by
  intro pins s σ H Q I h
  refine wpAny_BinOp (bin ha hb I h fun v u s2 x y H2 I2 rx ry q => ?_)
  obtain ⟨i, j, rfl, rfl, q⟩ := q
  obtain ⟨t, rfl⟩ := rx
  obtain ⟨t', rfl⟩ := ry
  exact sub_int ⟨.int _, H2, I2.tok _, ⟨_, rfl⟩, q⟩
theorem pe_mul (ha : PE X a ta) (hb : PE X b tb) : PE X (.BinOp a .Mult b pos) (tMul ta tb) := by
  intro pins s σ H Q I h
  refine wpAny_BinOp (bin ha hb I h fun v u s2 x y H2 I2 rx ry q => ?_)
  obtain ⟨i, j, rfl, rfl, ⟨q1, q2⟩, q⟩ := q
  obtain ⟨t, rfl⟩ := rx
  obtain ⟨t', rfl⟩ := ry
  exact mul_int ⟨.int _, H2, I2.tok _, ⟨_, rfl⟩, q⟩ (.of_left (intBits_le_64 q1 q2))

/-! ### comparisons -/
def PC (X : Cx) (op : CmpOp) (a b : Expr) (t : TE) : Prop :=
  ∀ (pins : List (Addr × Obj)) (s : Shared) (σ : St) (H : Hp) (Q : VK), Inv X pins σ H s → t σ H Q →
    wpAny (model X.prog X.w) X.A (eval a X.env) (fun v s₁ => wpAny (model X.prog X.w) X.A (eval b X.env) (fun u s₂ => wpAny (model X.prog X.w) X.A (compareOp op v u) (EP X pins σ Q) X.xe s₂) X.xe s₁) X.xe s
theorem nobehind (b : Expr) {op : CmpOp} (h : op ≠ .In) (h2 : op ≠ .NotIn) : behindInMarks op b = false := by
  have e1 : (op == CmpOp.In) = false := by cases op <;> first | rfl | exact absurd rfl h
  have e2 : (op == CmpOp.NotIn) = false := by cases op <;> first | rfl | exact absurd rfl h2
  cases b <;> simp [behindInMarks, e1, e2]
def tCmp (p : Int → Int → Bool) (ta tb : TE) : TE := fun σ H Q => t2I ta tb (fun i j H2 => Q (.bl (p i j)) H2) σ H
abbrev tLt : TE → TE → TE := tCmp fun i j => decide (i < j)
abbrev tLe : TE → TE → TE := tCmp fun i j => decide (i ≤ j)
abbrev tGt : TE → TE → TE := tCmp fun i j => decide (j < i)
abbrev tGe : TE → TE → TE := tCmp fun i j => decide (j ≤ i)
abbrev tEqI : TE → TE → TE := tCmp fun i j => decide (i = j)
abbrev tNeI : TE → TE → TE := tCmp fun i j => !decide (i = j)
/-- a comparison of two ints, by its rule -/
theorem pc_int {op : CmpOp} {p : Int → Int → Bool} (ha : PE X a ta) (hb : PE X b tb)
    (rule : ∀ (i j : Int) (t u : Tok) (Q : Value → Shared → Prop) (s : Shared), Q (.bool (p i j)) s → wpAny (model X.prog X.w) X.A (compareOp op (.int i t) (.int j u)) Q X.xe s) : PC X op a b (tCmp p ta tb) := by
  intro pins s σ H Q I h
  refine bin ha hb I h fun v u s2 x y H2 I2 rx ry q => ?_
  obtain ⟨i, j, rfl, rfl, q⟩ := q
  obtain ⟨t, rfl⟩ := rx
  obtain ⟨t', rfl⟩ := ry
  exact rule i j t t' _ s2 ⟨.bl _, H2, I2, rfl, q⟩
theorem pc_lt (ha : PE X a ta) (hb : PE X b tb) : PC X .Lt a b (tLt ta tb) := pc_int ha hb fun _ _ _ _ _ _ h => lt_int h
theorem pc_le (ha : PE X a ta) (hb : PE X b tb) : PC X .LtE a b (tLe ta tb) := pc_int ha hb fun _ _ _ _ _ _ h => le_int h
theorem pc_gt (ha : PE X a ta) (hb : PE X b tb) : PC X .Gt a b (tGt ta tb) := pc_int ha hb fun _ _ _ _ _ _ h => gt_int h
theorem pc_ge (ha : PE X a ta) (hb : PE X b tb) : PC X .GtE a b (tGe ta tb) := pc_int ha hb fun _ _ _ _ _ _ h => ge_int h
theorem pc_eqI (ha : PE X a ta) (hb : PE X b tb) : PC X .Eq a b (tEqI ta tb) := pc_int ha hb fun _ _ _ _ _ _ h => eq_int (by rw [Bool.beq_eq_decide_eq]; exact h)
theorem pc_neI (ha : PE X a ta) (hb : PE X b tb) : PC X .NotEq a b (tNeI ta tb) := pc_int ha hb fun _ _ _ _ _ _ h => ne_int (by rw [bne, Bool.beq_eq_decide_eq]; exact h)
/-- is None -/
def tIsN (ta : TE) : TE := fun σ H Q => ta σ H fun x H1 => Q (.bl (decide (x = .non))) H1
def tNotN (ta : TE) : TE := fun σ H Q => ta σ H fun x H1 => Q (.bl (!decide (x = .non))) H1
theorem RelV.none_iff {x : V} {v : Value} (r : RelV x v) : (v == Value.none) = decide (x = .non) := by
  cases x with
  | non => cases r; rfl
  | bl _ => cases r; rfl
  | int _ => obtain ⟨t, rfl⟩ := r; rfl
  | str _ => obtain ⟨t, rfl⟩ := r; rfl
  | byt _ => obtain ⟨t, rfl⟩ := r; rfl
  | flt _ => obtain ⟨t, rfl⟩ := r; rfl
  | ref _ => cases r; rfl
  | ty _ => cases r; rfl
theorem pc_isN {j pos'} (ha : PE X a ta) : PC X .Is a (.Constant .none j pos') (tIsN ta) := by
  intro pins s σ H Q I h
  refine thn (ha pins s σ H _ I h) fun v s1 ⟨x, H1, I1, r1, q1⟩ => ?_
  exact Constant_none (is_none_gen ⟨.bl _, H1, I1, by rw [r1.none_iff]; rfl, q1⟩)
theorem pc_notN {j pos'} (ha : PE X a ta) : PC X .IsNot a (.Constant .none j pos') (tNotN ta) := by
  intro pins s σ H Q I h
  refine thn (ha pins s σ H _ I h) fun v s1 ⟨x, H1, I1, r1, q1⟩ => ?_
  exact Constant_none (isnot_none_gen ⟨.bl _, H1, I1, by rw [r1.none_iff]; rfl, q1⟩)
/-- a comparison as a value, as a test -/
def tB (t : TE) : TT := fun σ H Q => t σ H fun x H1 => ∃ c, x = .bl c ∧ Q c H1
theorem pe_cmp {op : CmpOp} {t : TE} (h : PC X op a b t) (h1 : behindInMarks op b = false := by first | exact nobehind _ (by decide) (by decide) | rfl) : PE X (.Compare a [op] [b] pos) t := fun pins s σ H Q I hw => wpAny_Compare1 (h pins s σ H Q I hw) h1
theorem pt_cmp {op : CmpOp} {t : TE} (h : PC X op a b t) (h1 : behindInMarks op b = false := by first | exact nobehind _ (by decide) (by decide) | rfl) : PT X (.Compare a [op] [b] pos) (tB t) := by
  intro pins s σ H Q I hw
  refine wpAny_isTrue_Compare1 (thn (h pins s σ H _ I hw) fun v s1 h1 => thn h1 fun u s2 h2 => thn h2 fun c s3 ⟨x, H1, I1, r1, q1⟩ => ?_) h1
  obtain ⟨d, rfl, q⟩ := q1
  cases r1
  exact wpAny_truthy_bool ⟨H1, I1, q⟩
/-- an expression whose value is a bool, as a test -/
theorem pt_val {e : Expr} {t : TE} (h : PE X e t) (he : ∀ whole, isTrue e X.env whole = (do let v ← whole; standAt e.pos; holding [v] (truthy v)) := by intro _; rfl) : PT X e (tB t) := by
  intro pins s σ H Q I hw
  refine isTrue_plain (thn (h pins s σ H _ I hw) fun v s1 ⟨x, H1, I1, r1, q1⟩ => ?_) (he _)
  obtain ⟨d, rfl, q⟩ := q1
  cases r1
  exact wpAny_truthy_bool ⟨H1, I1, q⟩

/-! ### and, or, not -/
variable {tA tB' : TT} {rest : List Expr}
def tAnd (t u : TT) : TT := fun σ H Q => t σ H fun c H1 => if c = true then u σ H1 Q else Q false H1
def tOr (t u : TT) : TT := fun σ H Q => t σ H fun c H1 => if c = true then Q true H1 else u σ H1 Q
def tNot (t : TT) : TT := fun σ H Q => t σ H fun c H1 => Q (!c) H1
theorem pw_and1 (ha : PT X a tA) : PW X (.BoolOp .And [a] pos) tA := by
  intro wh pins s σ H Q I h
  refine isTrue_and (thn (ha pins s σ H Q I h) fun c s1 e => ?_)
  cases c with
  | true => exact isTrue_and_nil e
  | false => exact e
theorem pw_or1 (ha : PT X a tA) : PW X (.BoolOp .Or [a] pos) tA := by
  intro wh pins s σ H Q I h
  refine isTrue_or (thn (ha pins s σ H Q I h) fun c s1 e => ?_)
  cases c with
  | false => exact isTrue_or_nil e
  | true => exact e
theorem pw_and (ha : PT X a tA) (hb : PW X (.BoolOp .And (b :: rest) pos) tB') : PW X (.BoolOp .And (a :: b :: rest) pos) (tAnd tA tB') := by
  intro wh pins s σ H Q I h
  refine isTrue_and (thn (ha pins s σ H _ I h) fun c s1 ⟨H1, I1, q1⟩ => ?_)
  cases c with
  | true => exact hb wh pins s1 σ H1 Q I1 q1
  | false => exact ⟨H1, I1, q1⟩
theorem pw_or (ha : PT X a tA) (hb : PW X (.BoolOp .Or (b :: rest) pos) tB') : PW X (.BoolOp .Or (a :: b :: rest) pos) (tOr tA tB') := by
  intro wh pins s σ H Q I h
  refine isTrue_or (thn (ha pins s σ H _ I h) fun c s1 ⟨H1, I1, q1⟩ => ?_)
  cases c with
  | true => exact ⟨H1, I1, q1⟩
  | false => exact hb wh pins s1 σ H1 Q I1 q1
theorem pt_not (ha : PT X a tA) : PT X (.UnaryOp .Not a pos) (tNot tA) := by
  intro pins s σ H Q I h
  exact isTrue_not (ha pins s σ H (fun c H1 => Q (!c) H1) I h)
/-- .. as values (bools) -/
def tAndV (ta tb : TE) : TE := fun σ H Q => ta σ H fun x H1 => ∃ c, x = .bl c ∧ if c = true then tb σ H1 Q else Q (.bl false) H1
def tOrV (ta tb : TE) : TE := fun σ H Q => ta σ H fun x H1 => ∃ c, x = .bl c ∧ if c = true then Q (.bl true) H1 else tb σ H1 Q
def tNotV (ta : TE) : TE := fun σ H Q => ta σ H fun x H1 => ∃ c, x = .bl c ∧ Q (.bl (!c)) H1
theorem pe_one {op} {t : TE} (h : PE X a t) : PE X (.BoolOp op [a] pos) t := fun pins s σ H Q I hw => BoolOp_one (h pins s σ H Q I hw)
theorem pe_and (ha : PE X a ta) (hb : PE X (.BoolOp .And (b :: rest) pos) tb) : PE X (.BoolOp .And (a :: b :: rest) pos) (tAndV ta tb) := by
  intro pins s σ H Q I h
  refine BoolOp_and (thn (ha pins s σ H _ I h) fun v s1 ⟨x, H1, I1, r1, q1⟩ => ?_)
  obtain ⟨c, rfl, q1⟩ := q1
  cases r1
  refine wpAny_truthy_bool ?_
  cases c with
  | true => exact hb pins s1 σ H1 Q I1 q1
  | false => exact ⟨.bl false, H1, I1, rfl, q1⟩
theorem pe_or (ha : PE X a ta) (hb : PE X (.BoolOp .Or (b :: rest) pos) tb) : PE X (.BoolOp .Or (a :: b :: rest) pos) (tOrV ta tb) := by
  intro pins s σ H Q I h
  refine BoolOp_or (thn (ha pins s σ H _ I h) fun v s1 ⟨x, H1, I1, r1, q1⟩ => ?_)
  obtain ⟨c, rfl, q1⟩ := q1
  cases r1
  refine wpAny_truthy_bool ?_
  cases c with
  | false => exact hb pins s1 σ H1 Q I1 q1
  | true => exact ⟨.bl true, H1, I1, rfl, q1⟩
theorem pe_not (ha : PE X a ta) : PE X (.UnaryOp .Not a pos) (tNotV ta) := by
  intro pins s σ H Q I h
  refine UnaryOp_ (thn (ha pins s σ H _ I h) fun v s1 ⟨x, H1, I1, r1, q1⟩ => ?_)
  obtain ⟨c, rfl, q1⟩ := q1
  cases r1
  exact not_of (wpAny_truthy_bool ⟨.bl (!c), H1, I1, rfl, q1⟩)
/-- a if t else b -/
def tIf (t : TT) (ta tb : TE) : TE := fun σ H Q => t σ H fun c H1 => if c = true then ta σ H1 Q else tb σ H1 Q
theorem pe_ifExp {c : Expr} (hc : PT X c tA) (ha : PE X a ta) (hb : PE X b tb) : PE X (.IfExp c a b pos) (tIf tA ta tb) := by
  intro pins s σ H Q I h
  refine wpAny_IfExp (thn (hc pins s σ H _ I h) fun d s1 ⟨H1, I1, q1⟩ => ?_)
  cases d with
  | true => exact ha pins s1 σ H1 Q I1 q1
  | false => exact hb pins s1 σ H1 Q I1 q1
end
end L2

namespace L2
open PySem PySem.Spec PyProof.Rows

/-! ### a list, a tuple that is read: tracked, frozen, or an object of the module -/
def SqL (K : PySem.W.Frag) (H : Hp) (a : Addr) (xs : List V) : Prop :=
  Rd H a (.lst xs) ∨
    ∃ (o : Obj) (its : Array Value) (n : Nat), K.lookup a = some o ∧ o.cls = .type "list" ∧ o.dict = none ∧ o.data = .seq its n ∧ its.size ≤ sizeLine ∧ Vals xs its.toList
def SqT (K : PySem.W.Frag) (H : Hp) (a : Addr) (xs : List V) : Prop :=
  Rd H a (.tup xs) ∨
    ∃ (o : Obj) (its : Array Value) (n : Nat), K.lookup a = some o ∧ o.cls = .type "tuple" ∧ o.data = .seq its n ∧ its.size ≤ sizeLine ∧ Vals xs its.toList
def absV : Value → Option V
  | .none => some .non
  | .bool b => some (.bl b)
  | .int i _ => some (.int i)
  | .str x _ => some (.str x)
  | .bytes b _ => some (.byt b)
  | .float b _ => some (.flt b)
  | .ref a => some (.ref a)
  | .type n => some (.ty n)
  | _ => none
theorem RelV.abs {x : V} {u : Value} (r : RelV x u) : absV u = some x := by
  cases x with
  | non => cases r; rfl
  | bl _ => cases r; rfl
  | int _ => obtain ⟨t, rfl⟩ := r; rfl
  | str _ => obtain ⟨t, rfl⟩ := r; rfl
  | byt _ => obtain ⟨t, rfl⟩ := r; rfl
  | flt _ => obtain ⟨t, rfl⟩ := r; rfl
  | ref _ => cases r; rfl
  | ty _ => cases r; rfl
theorem RelV.inj {x y : V} {u : Value} (r : RelV x u) (q : RelV y u) : x = y := Option.some.inj (r.abs.symm.trans q.abs)
theorem Vals.inj : ∀ {xs ys : List V} {us : List Value}, Vals xs us → Vals ys us → xs = ys
  | _, _, _, .nil, .nil => rfl
  | _, _, _, .cons r t, .cons r' t' => by rw [r.inj r', Vals.inj t t']
section
variable {X : Cx} {pins : List (Addr × Obj)} {σ : St} {H : Hp} {s : Shared} {a : Addr} {xs ys : List V}
theorem SqL.of {K : PySem.W.Frag} (h : H a = some (.lst xs)) : SqL K H a xs := .inl (.inl h)
theorem SqT.of {K : PySem.W.Frag} (h : H a = some (.tup xs)) : SqT K H a xs := .inl (.inl h)
theorem Inv.list (I : Inv X pins σ H s) (h : SqL X.K H a xs) : ∃ its : List Value, Vals xs its ∧ PlainL s.heap a its.toArray ∧ xs.length ≤ sizeLine := by
  rcases h with h | ⟨o, its, n, hk, hc, hd, hs, hz, r⟩
  · obtain ⟨z, its, n, r, e⟩ := h.ok I.hok
    exact ⟨its, r, ⟨_, n, e, rfl, rfl, rfl⟩, z⟩
  · refine ⟨its.toList, r, ⟨o, n, I.kIn a o hk, hc, hd, by simpa using hs⟩, ?_⟩
    have e := r.length
    simp only [Array.length_toList] at e
    omega
theorem Inv.tuple (I : Inv X pins σ H s) (h : SqT X.K H a xs) : ∃ its : List Value, Vals xs its ∧ IsTup s.heap a its.toArray ∧ xs.length ≤ sizeLine := by
  rcases h with h | ⟨o, its, n, hk, hc, hs, hz, r⟩
  · obtain ⟨z, its, r, p⟩ := h.ok I.hok
    exact ⟨its, r, p, z⟩
  · refine ⟨its.toList, r, ⟨o, I.kIn a o hk, hc, n, by simpa using hs⟩, ?_⟩
    have e := r.length
    simp only [Array.length_toList] at e
    omega
theorem Inv.list_inj (I : Inv X pins σ H s) (h : SqL X.K H a xs) (h' : SqL X.K H a ys) : xs = ys := by
  obtain ⟨its, r, ⟨o, n, e, _, _, d⟩, _⟩ := I.list h
  obtain ⟨its', r', ⟨o', n', e', _, _, d'⟩, _⟩ := I.list h'
  rw [e] at e'; cases e'
  rw [d] at d'
  injection d' with d1 _
  have : its = its' := by simpa using congrArg Array.toList d1
  subst this
  exact r.inj r'
theorem Inv.tuple_inj (I : Inv X pins σ H s) (h : SqT X.K H a xs) (h' : SqT X.K H a ys) : xs = ys := by
  obtain ⟨its, r, ⟨o, e, _, n, d⟩, _⟩ := I.tuple h
  obtain ⟨its', r', ⟨o', e', _, n', d'⟩, _⟩ := I.tuple h'
  rw [e] at e'; cases e'
  rw [d] at d'
  injection d' with d1 _
  have : its = its' := by simpa using congrArg Array.toList d1
  subst this
  exact r.inj r'
end

/-! ### another wish about exceptions -/
abbrev Cx.wish (X : Cx) (E : Value → Shared → Prop) : Cx := { X with xe := E }
/-- no exception leaves -/
abbrev Cx.nox (X : Cx) : Cx := X.wish fun _ _ => False
theorem Cx.Ok.wish {X : Cx} (ok : X.Ok) (E : Value → Shared → Prop) : (X.wish E).Ok :=
  ⟨ok.mod, ok.kind, ok.glob, ok.blt, ok.above, ok.inj, ok.has, ok.cab, ok.hd, ok.frames, ok.stk, ok.exf, ok.bs, ok.bsz, ok.noex, ok.exfs, ok.funs, ok.frf⟩
theorem Cx.Ok.unwish {X : Cx} {E : Value → Shared → Prop} (ok : (X.wish E).Ok) : X.Ok :=
  ⟨ok.mod, ok.kind, ok.glob, ok.blt, ok.above, ok.inj, ok.has, ok.cab, ok.hd, ok.frames, ok.stk, ok.exf, ok.bs, ok.bsz, ok.noex, ok.exfs, ok.funs, ok.frf⟩
section
variable {X : Cx} {pins : List (Addr × Obj)} {σ : St} {H : Hp} {s : Shared} {E : Value → Shared → Prop}
theorem Inv.wish (I : Inv X pins σ H s) (E : Value → Shared → Prop) : Inv (X.wish E) pins σ H s := ⟨I.ok.wish E, I.os, I.bare, I.base, I.loc, I.cell, I.free, I.freeC, I.pin, I.hok, I.len⟩
theorem Inv.unwish (I : Inv (X.wish E) pins σ H s) : Inv X pins σ H s := ⟨I.ok.unwish, I.os, I.bare, I.base, I.loc, I.cell, I.free, I.freeC, I.pin, I.hok, I.len⟩
theorem SP.unwish {D : Ends} {f : Flow} {s' : Shared} (h : SP (X.wish E) pins D f s') : SP X pins D f s' := by
  cases f with
  | next => obtain ⟨σ', H', I, q⟩ := h; exact ⟨σ', H', I.unwish, q⟩
  | brk => obtain ⟨σ', H', I, q⟩ := h; exact ⟨σ', H', I.unwish, q⟩
  | cont => obtain ⟨σ', H', I, q⟩ := h; exact ⟨σ', H', I.unwish, q⟩
  | ret u => obtain ⟨v, σ', H', I, r, q⟩ := h; exact ⟨v, σ', H', I.unwish, r, q⟩
theorem PE.nox {e : Expr} {t : TE} (h : PE X.nox e t) : PE X e t := fun pins s σ H Q I hw =>
  wpAny_mono (h pins s σ H Q (I.wish _) hw) (fun _ _ ⟨v, H', I', r, q⟩ => ⟨v, H', I'.unwish, r, q⟩) fun _ _ z => False.elim z
theorem PT.nox {e : Expr} {t : TT} (h : PT X.nox e t) : PT X e t := fun pins s σ H Q I hw =>
  wpAny_mono (h pins s σ H Q (I.wish _) hw) (fun _ _ ⟨H', I', q⟩ => ⟨H', I'.unwish, q⟩) fun _ _ z => False.elim z
theorem PSs.nox {st : List Stmt} {t : TS} (h : PSs X.nox st t) : PSs X st t := fun pins s σ H D I hw =>
  wpAny_mono (h pins s σ H D (I.wish _) hw) (fun _ _ q => q.unwish) fun _ _ z => False.elim z
end

/-! ### blocks and small statements -/
section
variable {X : Cx} {st : Stmt} {rest : List Stmt} {t u : TS} {e : Expr} {te : TE} {pos : Pos}
def tNext : TS := fun D σ H => D.nx σ H
def tSeq (t u : TS) : TS := fun D σ H => t { D with nx := u D } σ H
theorem pss_nil : PSs X [] tNext := fun _ _ σ H _ I h => wpAny_execs_nil ⟨σ, H, I, h⟩
theorem pss_cons (h1 : PS X st t) (h2 : PSs X rest u) : PSs X (st :: rest) (tSeq t u) := by
  intro pins s σ H D I h
  refine wpAny_execs_cons (thn (h1 pins s σ H { D with nx := u D } I h) fun f s1 q => ?_)
  cases f with
  | next =>
    obtain ⟨σ', H', I', q⟩ := q
    exact h2 pins s1 σ' H' D I' q
  | ret v => exact q
  | brk => exact q
  | cont => exact q
theorem pss_one (h1 : PS X st t) : PSs X [st] t := by
  intro pins s σ H D I h
  refine wpAny_execs_cons (thn (h1 pins s σ H D I h) fun f s1 q => ?_)
  cases f with
  | next => exact wpAny_execs_nil q
  | ret v => exact q
  | brk => exact q
  | cont => exact q
def tBreak : TS := fun D σ H => D.bk σ H
def tCont : TS := fun D σ H => D.ct σ H
theorem ps_pass : PS X (.Pass pos) tNext := fun _ _ σ H _ I h => wpAny_Pass ⟨σ, H, I, h⟩
theorem ps_break : PS X (.Break pos) tBreak := fun _ _ σ H _ I h => wpAny_Break ⟨σ, H, I, h⟩
theorem ps_continue : PS X (.Continue pos) tCont := fun _ _ σ H _ I h => wpAny_Continue ⟨σ, H, I, h⟩
/-- in a def's body nothing is shown -/
theorem Inv.quiet {pins : List (Addr × Obj)} {σ : St} {H : Hp} {s : Shared} (I : Inv X pins σ H s) : interactive X.env = false := by simp [interactive, I.ok.kind]
/-- a docstring -/
theorem ps_doc {x j pos pos'} : PS X (.Expr (.Constant (.str x) j pos) pos') tNext := fun _ s σ H _ I h => wpAny_Expr (Calls.Constant_str (show SP X _ _ .next { s with toks := s.toks + 1 } from ⟨σ, H, I.tok _, h⟩)) I.quiet
/-- an expression whose value is dropped -/
def tDrop (te : TE) : TS := fun D σ H => te σ H fun _ H1 => D.nx σ H1
theorem ps_expr (he : PE X e te) (hs : swapsWith e none pos.line X.env = pure false := by rfl) : PS X (.Expr e pos) (tDrop te) := by
  intro pins s σ H D I h
  exact wpAny_Expr_any (thn (he pins s σ H _ I h) fun v s1 ⟨x, H1, I1, r1, q1⟩ => ⟨σ, H1, I1, q1⟩) I.quiet hs
def tRet (te : TE) : TS := fun D σ H => te σ H D.rt
theorem ps_ret (he : PE X e te) : PS X (.Return (some e) pos) (tRet te) := by
  intro pins s σ H D I h
  exact wpAny_Return_some (thn (he pins s σ H _ I h) fun v s1 ⟨x, H1, I1, r1, q1⟩ => ⟨x, σ, H1, I1, r1, q1⟩)
def tRetN : TS := fun D _ H => D.rt .non H
theorem ps_retN : PS X (.Return none pos) tRetN := fun _ _ σ H _ I h => wpAny_Return_none ⟨.non, σ, H, I, rfl, h⟩
def tIfS (c : TT) (t u : TS) : TS := fun D σ H => c σ H fun b H1 => if b = true then t D σ H1 else u D σ H1
theorem ps_if {c : Expr} {a b : List Stmt} {tc : TT} (hc : PT X c tc) (ha : PSs X a t) (hb : PSs X b u) : PS X (.If c a b pos) (tIfS tc t u) := by
  intro pins s σ H D I h
  refine wpAny_If (thn (hc pins s σ H _ I h) fun d s1 ⟨H1, I1, q1⟩ => ?_)
  cases d with
  | true => exact ha pins s1 σ H1 D I1 q1
  | false => exact hb pins s1 σ H1 D I1 q1
/-- code that the proof never comes to -/
def tNever : TS := fun _ _ _ => False
theorem ps_never : PS X st tNever := fun _ _ _ _ _ _ h => h.elim
theorem pss_never {sts : List Stmt} : PSs X sts tNever := fun _ _ _ _ _ _ h => h.elim
end

/-! ### targets -/
abbrev TG := V → St → Hp → (St → Hp → Prop) → Prop
abbrev TGs := List V → St → Hp → (St → Hp → Prop) → Prop
def PG (X : Cx) (target : Expr) (t : TG) : Prop :=
  ∀ (pins : List (Addr × Obj)) (s : Shared) (σ : St) (H : Hp) (v : V) (u : Value) (Q : St → Hp → Prop), Inv X pins σ H s → RelV v u → t v σ H Q →
    wpAny (model X.prog X.w) X.A (assign target X.env u) (fun _ s' => ∃ σ' H', Inv X pins σ' H' s' ∧ Q σ' H') X.xe s
/-- several targets, one after another -/
def PGs (X : Cx) (ts : List Expr) (t : TGs) : Prop :=
  ∀ (pins : List (Addr × Obj)) (s : Shared) (σ : St) (H : Hp) (vs : List V) (us : List Value) (Q : St → Hp → Prop), Inv X pins σ H s → Vals vs us → t vs σ H Q →
    wpAny (model X.prog X.w) X.A (assignInOrder ((assignEach ts X.env).map (·.2)) us) (fun _ s' => ∃ σ' H', Inv X pins σ' H' s' ∧ Q σ' H') X.xe s
/-- o[i] = v, by values -/
abbrev TSet := V → V → V → Hp → (Hp → Prop) → Prop
def PSet (X : Cx) (t : TSet) : Prop :=
  ∀ (pins : List (Addr × Obj)) (s : Shared) (σ : St) (H : Hp) (o i v : V) (ov iv u : Value) (Q : Hp → Prop), Inv X pins σ H s → RelV o ov → RelV i iv → RelV v u → t o i v H Q →
    wpAny (model X.prog X.w) X.A (setItem ov iv u) (fun _ s' => ∃ H', Inv X pins σ H' s' ∧ Q H') X.xe s
/-- a op= b, by values -/
abbrev TIp := V → V → Hp → VK → Prop
def PIp (X : Cx) (op : Operator) (t : TIp) : Prop :=
  ∀ (pins : List (Addr × Obj)) (s : Shared) (σ : St) (H : Hp) (x y : V) (v u : Value) (Q : VK), Inv X pins σ H s → RelV x v → RelV y u → t x y H Q →
    wpAny (model X.prog X.w) X.A (inplaceOp op v u) (EP X pins σ Q) X.xe s
section
variable {X : Cx} {pos : Pos}
def gName (i : Nat) : TG := fun v σ H Q => Q (σ.set i (some v)) H
theorem pg_name {i : Nat} {x : Str} (hN : X.N.Nodup) (hi : X.N[i]? = some x) (hx : Loc X.env.scope x) (hf : X.fn x = true ∨ X.env.scope.names.lookup x = some .local := by first | exact .inl rfl | exact .inr rfl | assumption) : PG X (.Name x pos) (gName i) := by
  intro pins s σ H v u Q I r h
  exact wpAny_assign_Name (store_ok I hN hi hx r (fun s' I' => ⟨_, H, I', h⟩) hf)
def gNil : TGs := fun vs σ H Q => vs = [] ∧ Q σ H
def gCons (t : TG) (u : TGs) : TGs := fun vs σ H Q => ∃ v r, vs = v :: r ∧ t v σ H fun σ' H' => u r σ' H' Q
theorem pgs_nil : PGs X [] gNil := by
  intro pins s σ H vs us Q I r h
  obtain ⟨e, h⟩ := h
  subst e
  cases r
  exact assignInOrder_nil ⟨σ, H, I, h⟩
theorem pgs_cons {e : Expr} {es : List Expr} {t : TG} {u : TGs} (h1 : PG X e t) (h2 : PGs X es u)
    (hs : (assignEach (e :: es) X.env).map (·.2) = assign e X.env :: (assignEach es X.env).map (·.2) := by rfl) : PGs X (e :: es) (gCons t u) := by
  intro pins s σ H vs us Q I r h
  obtain ⟨v, vr, e1, h⟩ := h
  subst e1
  cases r with
  | cons r rr =>
    rw [hs]
    refine assignInOrder_cons (thn (h1 pins s σ H _ _ _ I r h) fun _ s1 ⟨σ1, H1, I1, q1⟩ => ?_)
    exact h2 pins s1 σ1 H1 _ _ Q I1 rr q1
/-- (a, b, ..) = a tuple of that length -/
def gTup (K : PySem.W.Frag) (n : Nat) (t : TGs) : TG := fun v σ H Q => ∃ a xs, v = .ref a ∧ SqT K H a xs ∧ xs.length = n ∧ t xs σ H Q
theorem pg_tup {es : List Expr} {k : Nat} {t : TGs} {n : Nat} (hc : X.calm = true) (h : PGs X es t)
    (hn : (assignEach es X.env).length = n := by rfl) (hst : (assignEach es X.env).findIdx? (·.1) = none := by rfl) : PG X (.Tuple es k pos) (gTup X.K n t) := by
  intro pins s σ H v u Q I r hw
  obtain ⟨a, xs, e1, hq, hl, hw⟩ := hw
  subst e1
  cases r
  obtain ⟨its, rv, ht, hz⟩ := I.tuple hq
  refine assign_Tuple_tuple (I.ok.hd hc) ht (by simp [hn, ← hl, rv.length]) hst fun h' hx => ?_
  have I1 : Inv X pins σ H { s with heap := h' } := I.kept (t' := s.toks) fun b o e => hx b o (Nat.ne_of_lt (Heap.lt_size e)) e
  exact h pins _ σ H xs _ Q I1 (by simpa using rv) hw
/-- o[i] = .. -/
def gSub (to ti : TE) (t : TSet) : TG := fun v σ H Q => to σ H fun o H1 => ti σ H1 fun i H2 => t o i v H2 fun H3 => Q σ H3
theorem pg_sub {o i : Expr} {to ti : TE} {t : TSet} (ho : PE X o to) (hi : PE X i ti) (hs : PSet X t)
    (ha : ∀ v, assign (.Subscript o i pos) X.env v = (do
      let ov ← holding [v] (eval o X.env)
      let iv ← holding [v, ov] (eval i X.env)
      standAt pos
      holding [v, ov, iv] (setItem ov iv v)
      release [v, ov, iv] []) := by intro _; rfl) : PG X (.Subscript o i pos) (gSub to ti t) := by
  intro pins s σ H v u Q I r h
  rw [ha]
  refine wpAny_bind (wpAny_holding (thn (ho pins s σ H _ I h) fun ov s1 ⟨x, H1, I1, r1, q1⟩ => ?_))
  refine wpAny_bind (wpAny_holding (thn (hi pins s1 σ H1 _ I1 q1) fun iv s2 ⟨y, H2, I2, r2, q2⟩ => ?_))
  refine wpAny_bind (wpAny_standAt (wpAny_bind (wpAny_holding (thn (hs pins s2 σ H2 x y v ov iv u _ I2 r1 r2 r q2) fun _ s3 ⟨H3, I3, q3⟩ => ?_))))
  exact wpAny_release ⟨σ, H3, I3, q3⟩
/-- target = value -/
def tAsg (te : TE) (g : TG) : TS := fun D σ H => te σ H fun x H1 => g x σ H1 D.nx
theorem ps_asg {tg e : Expr} {te : TE} {g : TG} (he : PE X e te) (hg : PG X tg g) (hs : swapsWithSole [tg] e pos.line X.env = pure false := by rfl) (hw : swappedStores [tg] e X.env = pure none := by rfl)
    (h1 : (assignEach [tg] X.env).map (·.2) = [assign tg X.env] := by rfl) : PS X (.Assign [tg] e pos) (tAsg te g) := by
  intro pins s σ H D I h
  refine wpAny_Assign_stores (thn (he pins s σ H _ I h) fun v s1 ⟨x, H1, I1, r1, q1⟩ => ?_) hs hw
  rw [h1]
  exact thn (hg pins s1 σ H1 x v _ I1 r1 q1) fun _ s2 q => q
/-- name = value -/
theorem ps_set {i : Nat} {x : Str} {e : Expr} {te : TE} {pos' : Pos} (hN : X.N.Nodup) (hi : X.N[i]? = some x) (hx : Loc X.env.scope x) (he : PE X e te) (hs : swapsWith e (some (.Name x pos')) pos.line X.env = pure false := by rfl) (hf : X.fn x = true ∨ X.env.scope.names.lookup x = some .local := by first | exact .inl rfl | exact .inr rfl | assumption) :
    PS X (.Assign [.Name x pos'] e pos) (tAsg te (gName i)) := by
  intro pins s σ H D I h
  refine wpAny_Assign_Name (thn (he pins s σ H _ I h) fun v s1 ⟨y, H1, I1, r1, q1⟩ => ?_) hs
  exact store_ok I1 hN hi hx r1 (fun s2 I2 => ⟨_, H1, I2, q1⟩) hf
/-- a, b = x, y with plain local names: stored from the right; the pair itself is not tracked (the opening rows as in PyProof/Rows/TupAssign.lean:23) -/
def tPar (i j : Nat) (ta : TA) : TS := fun D σ H => ta σ H fun vs H1 => ∃ v w, vs = [v, w] ∧ D.nx ((σ.set i (some v)).set j (some w)) H1
theorem ps_par {i j : Nat} {x y : Str} {a b : Expr} {ta : TA} {px py pt : Pos} {kt k2 pt2} (hc : X.calm = true) (hN : X.N.Nodup) (hi : X.N[i]? = some x) (hj : X.N[j]? = some y) (hij : i ≠ j)
    (hx : X.env.scope.names.lookup x = some .local) (hy : X.env.scope.names.lookup y = some .local) (ha : PA X [a, b] ta)
    (hw : swappedStores [.Tuple [.Name x px, .Name y py] kt pt] (.Tuple [a, b] k2 pt2) X.env = pure (some [x, y]))
    (hs : swapsWithSole [.Tuple [.Name x px, .Name y py] kt pt] (.Tuple [a, b] k2 pt2) pos.line X.env = pure false := by rfl) :
    PS X (.Assign [.Tuple [.Name x px, .Name y py] kt pt] (.Tuple [a, b] k2 pt2) pos) (tPar i j ta) := by
  intro pins s σ H D I h
  rw [exec_Assign_arm]
  refine wpAny_bind (wpAny_standAt ?_)
  rw [hs]
  refine wpAny_bind (wpAny_pure ?_)
  rw [if_neg (by decide)]
  refine wpAny_bind (Tuple_ (thn (ha _ pins s σ H _ I h) fun us s1 ⟨vs, H1, I1, r1, q1⟩ => ?_))
  obtain ⟨v, w, e1, q1⟩ := q1
  subst e1
  obtain ⟨u1, u2, rfl, rv, rw'⟩ : ∃ u1 u2, us = [u1, u2] ∧ RelV v u1 ∧ RelV w u2 := by
    cases r1 with
    | cons p q =>
      cases q with
      | cons p' q' =>
        cases q'
        exact ⟨_, _, rfl, p, p'⟩
  refine wpAny_newObj_type ?_ (by show 2 ≤ sizeLine; decide)
  have I2 : Inv X pins σ H1 { s1 with heap := s1.heap.push { cls := .type "tuple", data := .seq [u1, u2].toArray } } := I1.kept (t' := s1.toks) fun b o e => Heap.get?_push_of_some _ e
  rw [hw]
  refine wpAny_bind (wpAny_pure ?_)
  show wpAny (model X.prog X.w) X.A (do rule "assign.swapped-stores"; let items ← unpackItems (.ref s1.heap.objs.size) 2 none; assignInOrder [fun v => bindName X.env y v, fun v => bindName X.env x v] items.reverse; pure Flow.next) _ _ _
  refine wpAny_bind (wpAny_rule (wpAny_bind (unpackItems_tuple (items := #[u1, u2]) (I.ok.hd hc) (IsTup.new s1.heap _) fun h' hx' => ?_)))
  have I3 := I2.kept (h' := h') (t' := s1.toks) fun b o e => hx' b o (Nat.ne_of_lt (Heap.lt_size e)) e
  show wpAny _ _ (assignInOrder [fun v => bindName X.env y v, fun v => bindName X.env x v] [u2, u1] >>= fun _ => pure Flow.next) _ _ _
  refine wpAny_bind (assignInOrder_cons (wpAny_bindName (store_ok I3 hN hj (.inl hy) rw' (fun s2 I4 => ?_) (.inr hy))))
  refine assignInOrder_cons (wpAny_bindName (store_ok I4 hN hi (.inl hx) rv (fun s3 I5 => assignInOrder_nil (wpAny_pure ?_)) (.inr hx)))
  rw [List.set_comm _ _ (Ne.symm hij)] at I5
  exact ⟨_, H1, I5, q1⟩
/-- name op= e -/
def tAug (i : Nat) (te : TE) (ti : TIp) : TS := fun D σ H => ∃ x, σ[i]? = some (some x) ∧ te σ H fun y H1 => ti x y H1 fun z H2 => D.nx (σ.set i (some z)) H2
theorem ps_aug {i : Nat} {x : Str} {e : Expr} {te : TE} {op : Operator} {ti : TIp} {pos' : Pos} (hN : X.N.Nodup) (hi : X.N[i]? = some x) (hx : Loc X.env.scope x) (he : PE X e te) (ho : PIp X op ti) (hf : X.fn x = true ∨ X.env.scope.names.lookup x = some .local := by first | exact .inl rfl | exact .inr rfl | assumption) :
    PS X (.AugAssign (.Name x pos') op e pos) (tAug i te ti) := by
  intro pins s σ H D I h
  obtain ⟨v, e1, h⟩ := h
  obtain ⟨m, hn, hl⟩ := I.loc
  have vis : Vis X.env.scope x := by rcases hx with k | k; exact .inl k; exact .inr (.inl k)
  obtain ⟨u, r, l⟩ := hl i x v hi e1 vis
  refine wpAny_AugAssign_Name ?_
  have go : wpAny (model X.prog X.w) X.A (eval e X.env) (fun w s₂ => wpAny (model X.prog X.w) X.A (inplaceOp op u w) (fun r s₃ => wpAny (model X.prog X.w) X.A (storeName X.env x r) (fun _ => SP X pins D .next) X.xe s₃) X.xe s₂) X.xe s := by
    refine thn (he pins s σ H _ I h) fun w s1 ⟨y, H1, I1, r1, q1⟩ => ?_
    refine thn (ho pins s1 σ H1 v y u w _ I1 r r1 q1) fun z s2 ⟨zv, H2, I2, r2, q2⟩ => ?_
    exact store_ok I2 hN hi hx r2 (fun s3 I3 => ⟨_, H2, I3, q2⟩) hf
  rcases l with ⟨hk, hm⟩ | ⟨hk, c, hc, hcell⟩
  · exact wpAny_loadName_local I.ok.kind hk hn hm go
  · rcases hk with hk | hk
    · exact wpAny_loadName_cell I.ok.kind hk hc hcell go
    · rcases hx with k | k
      · have : X.env.scope.names.lookup x = some .free := hk
        rw [k] at this; cases this
      · have : X.env.scope.names.lookup x = some .free := hk
        rw [k] at this; cases this
/-- o[i] op= e -/
def tAugS (to ti te : TE) (tget : V → V → Hp → VK → Prop) (tip : TIp) (tset : TSet) : TS := fun D σ H => to σ H fun o H1 => ti σ H1 fun i H2 => tget o i H2 fun x H3 => te σ H3 fun y H4 => tip x y H4 fun z H5 => tset o i z H5 fun H6 => D.nx σ H6
/-- o[i], by values -/
def PGet (X : Cx) (t : V → V → Hp → VK → Prop) : Prop :=
  ∀ (pins : List (Addr × Obj)) (s : Shared) (σ : St) (H : Hp) (o i : V) (ov iv : Value) (Q : VK), Inv X pins σ H s → RelV o ov → RelV i iv → t o i H Q →
    wpAny (model X.prog X.w) X.A (getItem ov iv) (EP X pins σ Q) X.xe s
theorem ps_augS {o i e : Expr} {to ti te : TE} {tget : V → V → Hp → VK → Prop} {tip : TIp} {tset : TSet} {op : Operator} {tpos : Pos} (ho : PE X o to) (hi : PE X i ti) (hg : PGet X tget) (he : PE X e te) (hp : PIp X op tip) (hs : PSet X tset)
    (ha : ∀ ov iv new, augStore i ov iv new = (do holding [new, ov, iv] (setItem ov iv new); release [new, ov, iv] []; pure .next) := by intros; rfl) : PS X (.AugAssign (.Subscript o i tpos) op e pos) (tAugS to ti te tget tip tset) := by
  intro pins s σ H D I h
  refine wpAny_AugAssign_SubscriptAny (thn (ho pins s σ H _ I h) fun ov s1 ⟨x1, H1, I1, r1, q1⟩ => ?_) ha
  refine thn (hi pins s1 σ H1 _ I1 q1) fun iv s2 ⟨x2, H2, I2, r2, q2⟩ => ?_
  refine thn (hg pins s2 σ H2 x1 x2 ov iv _ I2 r1 r2 q2) fun old s3 ⟨x3, H3, I3, r3, q3⟩ => ?_
  refine thn (he pins s3 σ H3 _ I3 q3) fun v s4 ⟨x4, H4, I4, r4, q4⟩ => ?_
  refine thn (hp pins s4 σ H4 x3 x4 old v _ I4 r3 r4 q4) fun new s5 ⟨x5, H5, I5, r5, q5⟩ => ?_
  exact thn (hs pins s5 σ H5 x1 x2 x5 ov iv new _ I5 r1 r2 r5 q5) fun _ s6 ⟨H6, I6, q6⟩ => ⟨σ, H6, I6, q6⟩
/-- ints -/
def ipI (f : Int → Int → Int) : TIp := fun x y H Q => ∃ i j, x = .int i ∧ y = .int j ∧ Q (.int (f i j)) H
theorem ip_add : PIp X .Add (ipI fun i j => i + j) := by
  intro pins s σ H x y v u Q I r1 r2 h
  obtain ⟨i, j, e1, e2, q⟩ := h
  subst e1; subst e2
  obtain ⟨t, rfl⟩ := r1
  obtain ⟨t', rfl⟩ := r2
  exact iadd_int ⟨.int _, H, I.tok _, ⟨_, rfl⟩, q⟩
theorem ip_sub : PIp X .Sub (ipI fun i j => i - j) := by
  intro pins s σ H x y v u Q I r1 r2 h
  obtain ⟨i, j, e1, e2, q⟩ := h
  subst e1; subst e2
  obtain ⟨t, rfl⟩ := r1
  obtain ⟨t', rfl⟩ := r2
  exact isub_int ⟨.int _, H, I.tok _, ⟨_, rfl⟩, q⟩
end

/-! ### while -/
section
variable {X : Cx} {pos : Pos}
/-- the invariant W with its measure -/
def tWhile (c : TT) (tb : TS) : TS := fun D σ H => ∃ W : Nat → St → Hp → Prop, (∃ m, W m σ H) ∧ ∀ m σ H, W m σ H →
  c σ H fun b H1 => if b = true then ∃ N : St → Hp → Prop, (∀ σ' H', N σ' H' → ∃ m', m' < m ∧ W m' σ' H') ∧ tb { D with nx := N, ct := N, bk := D.nx } σ H1 else D.nx σ H1
theorem ps_while {c : Expr} {body : List Stmt} {tc : TT} {tb : TS} (hp : PassesOwn (model X.prog X.w) X.A X.env X.xe) (hc : PT X c tc) (hb : PSs X body tb) : PS X (.While c body [] pos) (tWhile tc tb) := by
  intro pins s σ H D I h
  obtain ⟨W, ⟨m0, w0⟩, turn⟩ := h
  refine wpAny_While (codeAny_whileLoop (fun n s' => ∃ σ' H', Inv X pins σ' H' s' ∧ W n σ' H') ?_ m0 ⟨σ, H, I, w0⟩)
  rintro n s1 ⟨σ1, H1, I1, w1⟩
  refine wpAny_passesOwn hp (thn (hc pins s1 σ1 H1 _ I1 (turn n σ1 H1 w1)) fun b s2 ⟨H2, I2, q2⟩ => ?_)
  cases b with
  | true =>
    obtain ⟨N, hN, q2⟩ := q2
    rw [if_pos rfl]
    refine wpAny_passesOwn hp (thn (hb pins s2 σ1 H2 _ I2 q2) fun f s3 q3 => ?_)
    cases f with
    | next =>
      obtain ⟨σ3, H3, I3, n3⟩ := q3
      obtain ⟨m', hm, w3⟩ := hN σ3 H3 n3
      exact ⟨m', hm, σ3, H3, I3, w3⟩
    | cont =>
      obtain ⟨σ3, H3, I3, n3⟩ := q3
      obtain ⟨m', hm, w3⟩ := hN σ3 H3 n3
      exact ⟨m', hm, σ3, H3, I3, w3⟩
    | brk => exact q3
    | ret v => exact q3
  | false =>
    rw [if_neg Bool.false_ne_true]
    exact wpAny_execs_nil ⟨σ1, H2, I2, q2⟩
end

/-! ### what a loop or a comprehension walks -/
/-- at turn i: it yields x (the heap may grow), or it stops -/
structure It where
  go : Nat → Hp → Prop
  yld : Nat → Hp → V → Hp → Prop
  stop : Nat → Hp → Prop
/-- the iterator's own objects may turn: they are not the frame's, not pinned, younger than the entry (or a comprehension's own) -/
def FpOk (X : Cx) (pins : List (Addr × Obj)) (H : Hp) (b : Addr) : Prop :=
  H b = none ∧ b ≠ X.env.locals ∧ b ∉ X.fs ∧ (b ∈ X.ex ∨ X.s₀.heap.objs.size ≤ b) ∧ (∀ x c, X.env.cells.lookup x = some c → c ≠ b) ∧ ∀ p ∈ X.pn ++ pins, p.1 ≠ b
theorem Inv.fpOk {X : Cx} {pins : List (Addr × Obj)} {σ : St} {H H' : Hp} {s : Shared} {b : Addr} (I : Inv X pins σ H s) (hb : s.heap.objs.size ≤ b) (hn : H' b = none) : FpOk X pins H' b := by
  refine ⟨hn, Nat.ne_of_gt (Nat.lt_of_lt_of_le I.lt hb), I.nofs hb, .inr (Nat.le_trans I.sz hb), fun x c e z => ?_, fun p hp z => ?_⟩
  · obtain ⟨v, q⟩ := I.cell x c e
    exact absurd (Nat.lt_of_lt_of_le q.lt (by rw [z]; exact hb)) (Nat.lt_irrefl _)
  · exact absurd (Nat.lt_of_lt_of_le (Heap.lt_size (I.pin p hp).1) (by rw [z]; exact hb)) (Nat.lt_irrefl _)
structure Turn (P : Program) (w : World) (K : PySem.W.Frag) (tg : Expr) (J : It) (fp : List Addr) (it : Addr) (tn : Nat → Heap → Prop) : Prop where
  mem : it ∈ fp
  obj : ∀ i h, tn i h → ∀ b ∈ fp, ∃ o, h.get? b = some o ∧ ∀ v, o.data ≠ .cell v
  keep : ∀ i h h', tn i h → (∀ b ∈ fp, ∀ o, h.get? b = some o → h'.get? b = some o) → tn i h'
  item : ∀ (X : Cx), X.prog = P → X.w = w → X.K = K → X.calm = true → ∀ (i : Nat) (pins : List (Addr × Obj)) (s : Shared) (σ : St) (H : Hp) (E : Value → Shared → Prop), Inv X pins σ H s → (∀ b ∈ fp, FpOk X pins H b) → tn i s.heap → J.go i H →
    wpAny (model P w) X.A (pyNext (.ref it)) (fun r s1 => ∃ u, r = some u ∧
      wpAny (model P w) X.A (letOwnedTupleGo tg (.ref it) u) (fun _ s2 => ∃ x H', Inv X pins σ H' s2 ∧ RelV x u ∧ J.yld i H x H' ∧ tn (i + 1) s2.heap ∧ ∀ b ∈ fp, H' b = none) E s1) E s
  done : ∀ (X : Cx), X.prog = P → X.w = w → X.K = K → X.calm = true → ∀ (i : Nat) (pins : List (Addr × Obj)) (s : Shared) (σ : St) (H : Hp) (E : Value → Shared → Prop), Inv X pins σ H s → (∀ b ∈ fp, FpOk X pins H b) → tn i s.heap → J.stop i H →
    wpAny (model P w) X.A (pyNext (.ref it)) (fun r s1 => r = none ∧ Inv X pins σ H s1) E s
  self : ∀ (A : Around) (i : Nat) (s : Shared) (Q : Value → Shared → Prop) (E : Value → Shared → Prop), tn i s.heap → Q (.ref it) s → wpAny (model P w) A (pyIter (.ref it)) Q E s
abbrev TI := St → Hp → (It → Hp → Prop) → Prop
/-- an iterator has come -/
def PIE (X : Cx) (pins : List (Addr × Obj)) (σ : St) (tg : Expr) (R : It → Hp → Prop) (itv : Value) (s2 : Shared) : Prop :=
  ∃ (it : Addr) (fp : List Addr) (tn : Nat → Heap → Prop) (J : It) (H' : Hp), itv = .ref it ∧ Inv X pins σ H' s2 ∧ Turn X.prog X.w X.K tg J fp it tn ∧ tn 0 s2.heap ∧ (∀ b ∈ fp, FpOk X pins H' b) ∧ R J H'
def PI (X : Cx) (tg iter : Expr) (wi : TI) : Prop :=
  ∀ (pins : List (Addr × Obj)) (s : Shared) (σ : St) (H : Hp) (R : It → Hp → Prop), Inv X pins σ H s → wi σ H R →
    wpAny (model X.prog X.w) X.A (eval iter X.env) (fun v s1 => wpAny (model X.prog X.w) X.A (pyIter v) (PIE X pins σ tg R) X.xe s1) X.xe s

/-- the step ahead of the store is nothing for an iterator that keeps no tuple -/
theorem go_of {M : Model} {A : Around} {E : Value → Shared → Prop} {s : Shared} {tg : Expr} {it : Addr} {u : Value} {o : Obj} {n : String} {vs : Array Value} {Q : Unit → Shared → Prop} (ho : s.heap.get? it = some o) (hc : o.cls = .type n) (hd : o.data = .fields vs)
    (hn : ["enumerate", "zip", "dict_itemiterator", "dict_reverseitemiterator", "odict_iterator", "itertools.zip_longest", "itertools.pairwise"].contains n = false) (hQ : Q () s) : wpAny M A (letOwnedTupleGo tg (.ref it) u) Q E s := by
  unfold letOwnedTupleGo
  cases tg <;> first
    | exact wpAny_pure hQ
    | (cases u <;> first
        | exact wpAny_pure hQ
        | (refine wpAny_bind (wpAny_load ho ?_)
           rw [hc, hd]
           show wpAny M A (if (["enumerate", "zip", "dict_itemiterator", "dict_reverseitemiterator", "odict_iterator", "itertools.zip_longest", "itertools.pairwise"].contains n && vs[0]? == some (rawInt _)) = true then _ else _) Q E s
           rw [if_neg (by intro h; rw [hn, Bool.false_and] at h; cases h)]
           exact wpAny_pure hQ))

/-- the list at a, as it stands at each turn (a loop may append to it) -/
def Itl (K : PySem.W.Frag) (a : Addr) : It :=
  ⟨fun i H => ∃ xs x, SqL K H a xs ∧ xs[i]? = some x, fun i H x H' => H' = H ∧ ∀ xs, SqL K H a xs → xs[i]? = some x, fun i H => ∃ xs, SqL K H a xs ∧ xs.length ≤ i⟩
def Itt (K : PySem.W.Frag) (a : Addr) : It :=
  ⟨fun i H => ∃ xs x, SqT K H a xs ∧ xs[i]? = some x, fun i H x H' => H' = H ∧ ∀ xs, SqT K H a xs → xs[i]? = some x, fun i H => ∃ xs, SqT K H a xs ∧ xs.length ≤ i⟩
/-- lo, lo + 1, .. (n of them) -/
def Itr (lo : Int) (n : Nat) : It := ⟨fun i _ => i < n, fun i H x H' => H' = H ∧ x = .int (lo + i), fun i _ => n ≤ i⟩
theorem turn_list {P : Program} {w : World} {K : PySem.W.Frag} {tg : Expr} (a it : Addr) : Turn P w K tg (Itl K a) [it] it (fun i h => h.IsListIter it a i) where
  mem := by simp
  obj := fun i h st b hb => by
    have e : b = it := by simpa using hb
    subst e
    obtain ⟨o, e, c, d⟩ := st
    exact ⟨o, e, fun v z => by rw [d] at z; cases z⟩
  keep := fun i h h' st k => st.at fun o e => k it (by simp) o e
  item := by
    intro X hP hw hK hc i pins s σ H E I hf st hg
    subst hP hw hK
    obtain ⟨xs, x, hq, hx⟩ := hg
    obtain ⟨its, rv, p, hz⟩ := I.list hq
    obtain ⟨u, hu, ru⟩ := rv.get hx
    obtain ⟨f0, f1, f2, f3, f4, f5⟩ := hf it (by simp)
    refine wpAny_pyNext_list_item st p.isList (x := u) (by simpa using hu) fun h' st' sb => ?_
    have I1 : Inv X pins σ H { s with heap := h' } := I.turned (t' := s.toks) (fun b o hb e => (sb.2 b hb).trans e) f0 f1 f3 f4 f5
    obtain ⟨o, e, c, d⟩ := id st'
    exact ⟨u, rfl, go_of (s := { s with heap := h' }) e c d (by decide) ⟨x, H, I1, ru, ⟨rfl, fun ys hy => by rw [I.list_inj hy hq]; exact hx⟩, st', fun b hb => (hf b hb).1⟩⟩
  done := by
    intro X hP hw hK hc i pins s σ H E I hf st hg
    subst hP hw hK
    obtain ⟨xs, hq, hx⟩ := hg
    obtain ⟨its, rv, p, hz⟩ := I.list hq
    obtain ⟨f0, f1, f2, f3, f4, f5⟩ := hf it (by simp)
    have hl := rv.length
    exact wpAny_pyNext_list_end (I.ok.hd hc) st p.isList (by simp; omega) fun h' eb => ⟨rfl, I.turned (t' := s.toks) (fun b o hb e => eb b o hb e) f0 f1 f3 f4 f5⟩
  self := fun _ _ _ _ _ st h => wpAny_pyIter_listiter st h
theorem turn_tuple {P : Program} {w : World} {K : PySem.W.Frag} {tg : Expr} (a it : Addr) : Turn P w K tg (Itt K a) [it] it (fun i h => h.IsTupleIter it a i) where
  mem := by simp
  obj := fun i h st b hb => by
    have e : b = it := by simpa using hb
    subst e
    obtain ⟨o, e, c, d⟩ := st
    exact ⟨o, e, fun v z => by rw [d] at z; cases z⟩
  keep := fun i h h' st k => st.at fun o e => k it (by simp) o e
  item := by
    intro X hP hw hK hc i pins s σ H E I hf st hg
    subst hP hw hK
    obtain ⟨xs, x, hq, hx⟩ := hg
    obtain ⟨its, rv, p, hz⟩ := I.tuple hq
    obtain ⟨u, hu, ru⟩ := rv.get hx
    obtain ⟨f0, f1, f2, f3, f4, f5⟩ := hf it (by simp)
    refine wpAny_pyNext_tuple_item st (show s.heap.IsTuple a its.toArray from p) (x := u) (by simpa using hu) fun h' st' sb => ?_
    have I1 : Inv X pins σ H { s with heap := h' } := I.turned (t' := s.toks) (fun b o hb e => (sb.2 b hb).trans e) f0 f1 f3 f4 f5
    obtain ⟨o, e, c, d⟩ := id st'
    exact ⟨u, rfl, go_of (s := { s with heap := h' }) e c d (by decide) ⟨x, H, I1, ru, ⟨rfl, fun ys hy => by rw [I.tuple_inj hy hq]; exact hx⟩, st', fun b hb => (hf b hb).1⟩⟩
  done := by
    intro X hP hw hK hc i pins s σ H E I hf st hg
    subst hP hw hK
    obtain ⟨xs, hq, hx⟩ := hg
    obtain ⟨its, rv, p, hz⟩ := I.tuple hq
    obtain ⟨f0, f1, f2, f3, f4, f5⟩ := hf it (by simp)
    have hl := rv.length
    exact wpAny_pyNext_tuple_end (I.ok.hd hc) st (show s.heap.IsTuple a its.toArray from p) (by simp; omega) fun h' eb => ⟨rfl, I.turned (t' := s.toks) (fun b o hb e => eb b o hb e) f0 f1 f3 f4 f5⟩
  self := fun _ _ _ _ _ st h => wpAny_pyIter_tupleiter st h
theorem turn_range {P : Program} {w : World} {K : PySem.W.Frag} {tg : Expr} (it : Addr) (lo : Int) (n : Nat) : Turn P w K tg (Itr lo n) [it] it (fun i h => IsRangeIter h it (lo + (i : Nat) * 1) ((n : Int) - (i : Nat)) 1) where
  mem := by simp
  obj := fun i h st b hb => by
    have e : b = it := by simpa using hb
    subst e
    exact ⟨_, st, fun v z => by
      have z' : Data.fields _ = Data.cell v := z
      cases z'⟩
  keep := fun i h h' st k => k it (by simp) _ st
  item := by
    intro X hP hw hK hc i pins s σ H E I hf st hg
    subst hP hw hK
    obtain ⟨f0, f1, f2, f3, f4, f5⟩ := hf it (by simp)
    have W := Walks.range (prog := X.prog) (w := X.w) (I.ok.hd hc) it lo 1 n
    refine W.item i s _ _ hg st fun v h' tk hv st' kk => ?_
    obtain ⟨t, rfl⟩ := hv
    have I1 : Inv X pins σ H { s with heap := h', toks := tk } := I.turned (fun b o hb e => kk b o (by simpa using hb) e) f0 f1 f3 f4 f5
    refine ⟨_, rfl, go_of (s := { s with heap := h', toks := tk }) (n := "range_iterator") st' rfl rfl (by decide) ⟨.int (lo + i), H, I1, ⟨t, ?_⟩, ⟨rfl, rfl⟩, st', fun b hb => (hf b hb).1⟩⟩
    rw [Int.mul_one]
  done := by
    intro X hP hw hK hc i pins s σ H E I hf st hg
    subst hP hw hK
    obtain ⟨f0, f1, f2, f3, f4, f5⟩ := hf it (by simp)
    exact wpAny_pyNext_range_end (I.ok.hd hc) st (by have : n ≤ i := hg; omega) fun h' eb => ⟨rfl, I.turned (t' := s.toks) (fun b o hb e => eb b o hb e) f0 f1 f3 f4 f5⟩
  self := fun _ _ _ _ _ st h => wpAny_pyIter_rangeiter st h
end L2

namespace L2
open PySem PySem.Spec PyProof.Rows
section
variable {X : Cx} {tg : Expr}
def iList (K : PySem.W.Frag) (tl : TE) : TI := fun σ H R => tl σ H fun x H1 => ∃ a, x = .ref a ∧ (∃ xs, SqL K H1 a xs) ∧ R (Itl K a) H1
def iTup (K : PySem.W.Frag) (tl : TE) : TI := fun σ H R => tl σ H fun x H1 => ∃ a, x = .ref a ∧ (∃ xs, SqT K H1 a xs) ∧ R (Itt K a) H1
theorem pi_list {l : Expr} {tl : TE} (hl : PE X l tl) : PI X tg l (iList X.K tl) := by
  intro pins s σ H R I h
  refine thn (hl pins s σ H _ I h) fun v s1 ⟨x, H1, I1, r1, q1⟩ => ?_
  obtain ⟨a, e, ⟨xs, hq⟩, q⟩ := q1
  subst e
  cases r1
  obtain ⟨its, rv, p, hz⟩ := I1.list hq
  refine wpAny_pyIter_list p.isList ?_
  refine ⟨s1.heap.objs.size, [s1.heap.objs.size], _, _, H1, rfl, I1.kept (t' := s1.toks) fun b o e => Heap.get?_push_of_some _ e, turn_list a _, ⟨_, Heap.get?_push_size _ rfl, rfl, rfl⟩, fun b hb => ?_, q⟩
  have e : b = s1.heap.objs.size := by simpa using hb
  subst e
  exact I1.fpOk (Nat.le_refl _) (I1.hok.fresh (Nat.le_refl _))
theorem pi_tup {l : Expr} {tl : TE} (hl : PE X l tl) : PI X tg l (iTup X.K tl) := by
  intro pins s σ H R I h
  refine thn (hl pins s σ H _ I h) fun v s1 ⟨x, H1, I1, r1, q1⟩ => ?_
  obtain ⟨a, e, ⟨xs, hq⟩, q⟩ := q1
  subst e
  cases r1
  obtain ⟨its, rv, p, hz⟩ := I1.tuple hq
  refine wpAny_pyIter_tuple (show s1.heap.IsTuple a its.toArray from p) ?_
  refine ⟨s1.heap.objs.size, [s1.heap.objs.size], _, _, H1, rfl, I1.kept (t' := s1.toks) fun b o e => Heap.get?_push_of_some _ e, turn_tuple a _, ⟨_, Heap.get?_push_size _ rfl, rfl, rfl⟩, fun b hb => ?_, q⟩
  have e : b = s1.heap.objs.size := by simpa using hb
  subst e
  exact I1.fpOk (Nat.le_refl _) (I1.hok.fresh (Nat.le_refl _))
/-- a range object just made, walked -/
theorem range_it {pins : List (Addr × Obj)} {σ : St} {H : Hp} {s : Shared} {R : It → Hp → Prop} {E : Value → Shared → Prop} {lo hi : Int} {t u v : Tok} {tk : Nat} (I : Inv X pins σ H s) (h1 : -(2 ^ 62) ≤ lo) (h2 : lo < 2 ^ 62) (h3 : -(2 ^ 62) ≤ hi) (h4 : hi < 2 ^ 62)
    (q : R (Itr lo (hi - lo).toNat) H) : wpAny (model X.prog X.w) X.A (pyIter (.ref s.heap.objs.size)) (PIE X pins σ tg R) E { s with heap := s.heap.push { cls := .type "range", data := .fields #[.int lo t, .int hi u, .int 1 v] }, toks := tk } := by
  refine wpAny_pyIter_range (IsRange.new ..) (small_one h1 h2 h3 h4) ?_
  have I1 : Inv X pins σ H { s with heap := s.heap.push { cls := .type "range", data := .fields #[.int lo t, .int hi u, .int 1 v] }, toks := tk } := I.kept fun b o e => Heap.get?_push_of_some _ e
  refine ⟨(s.heap.push { cls := .type "range", data := .fields #[.int lo t, .int hi u, .int 1 v] }).objs.size, [(s.heap.push { cls := .type "range", data := .fields #[.int lo t, .int hi u, .int 1 v] }).objs.size], _, _, H, rfl,
    I1.kept (t' := tk) fun b o e => Heap.get?_push_of_some _ e, turn_range _ lo (hi - lo).toNat, ?_, fun b hb => ?_, q⟩
  · have e1 : lo + ((0 : Nat) : Int) * 1 = lo := by simp
    have e2 : (((hi - lo).toNat : Nat) : Int) - ((0 : Nat) : Int) = Builtin.Range.rangeSize lo hi 1 := by rw [rangeSize_one]; split <;> omega
    show IsRangeIter _ _ (lo + ((0 : Nat) : Int) * 1) ((((hi - lo).toNat : Nat) : Int) - ((0 : Nat) : Int)) 1
    rw [e1, e2]
    exact Heap.get?_push_size _ rfl
  · have e : b = (s.heap.push { cls := .type "range", data := .fields #[.int lo t, .int hi u, .int 1 v] }).objs.size := by simpa using hb
    subst e
    exact I1.fpOk (Nat.le_refl _) (I1.hok.fresh (Nat.le_refl _))
def iRng1 (ta : TA) : TI := fun σ H R => ta σ H fun vs H1 => ∃ j : Int, vs = [.int j] ∧ -(2 ^ 62) ≤ j ∧ j < 2 ^ 62 ∧ R (Itr 0 j.toNat) H1
def iRng2 (ta : TA) : TI := fun σ H R => ta σ H fun vs H1 => ∃ i j : Int, vs = [.int i, .int j] ∧ (-(2 ^ 62) ≤ i ∧ i < 2 ^ 62 ∧ -(2 ^ 62) ≤ j ∧ j < 2 ^ 62) ∧ R (Itr i (j - i).toNat) H1
theorem pi_range1 {a : Expr} {ta : TA} {p pos : Pos} (hg : Gl X "range") (hm : X.mg "range" = none) (ha : PA X [a] ta) (hs : starEach [a] X.env = [(false, eval a X.env)] := by rfl) : PI X tg (.Call (.Name "range" p) [a] [] pos) (iRng1 ta) := by
  intro pins s σ H R I h
  refine Call_ (ld_blt I hg hm boot_range (PyProof.Rows.callWith_type1 (thn (ha pos pins s σ H _ I h) fun us s1 ⟨vs, H1, I1, r1, q1⟩ => ?_) hs rfl))
  obtain ⟨j, e, q1, q2, q⟩ := q1
  subst e
  cases r1 with
  | cons r rr =>
    cases rr
    obtain ⟨t, rfl⟩ := r
    exact call_range_1 (range_it I1 (by omega) (by omega) q1 q2 (by simpa using q))
theorem pi_range2 {a b : Expr} {ta : TA} {p pos : Pos} (hg : Gl X "range") (hm : X.mg "range" = none) (ha : PA X [a, b] ta) (hs : starEach [a, b] X.env = [(false, eval a X.env), (false, eval b X.env)] := by rfl) (hs2 : starEach [b] X.env = [(false, eval b X.env)] := by rfl) :
    PI X tg (.Call (.Name "range" p) [a, b] [] pos) (iRng2 ta) := by
  intro pins s σ H R I h
  refine Call_ (ld_blt I hg hm boot_range (PyProof.Rows.callWith_type1 (thn (ha pos pins s σ H _ I h) fun us s1 ⟨vs, H1, I1, r1, q1⟩ => ?_) (by rw [hs, hs2]) (by rw [hs2]; rfl)))
  obtain ⟨i, j, e, ⟨q1, q2, q3, q4⟩, q⟩ := q1
  subst e
  cases r1 with
  | cons r rr =>
    cases rr with
    | cons r' rr =>
      cases rr
      obtain ⟨t, rfl⟩ := r
      obtain ⟨t', rfl⟩ := r'
      exact call_range_2 (range_it I1 q1 q2 q3 q4 q)

/-! ### for -/
/-- W: the invariant by the turn and a measure; N: what the body is to reach -/
def tFor (wi : TI) (g : TG) (tb : TS) : TS := fun D σ H => wi σ H fun J H1 => ∃ W : Nat → Nat → St → Hp → Prop, (∃ m, W 0 m σ H1) ∧ ∀ i m σ H, W i m σ H →
  (J.stop i H ∧ D.nx σ H) ∨ (J.go i H ∧ ∃ N : St → Hp → Prop, (∀ σ' H', N σ' H' → ∃ m', m' < m ∧ W (i + 1) m' σ' H') ∧ ∀ x H', J.yld i H x H' → g x σ H' fun σ2 H2 => tb { D with nx := N, ct := N, bk := D.nx } σ2 H2)
/-- the records at fp as they stand -/
def pinsAt (fp : List Addr) (h : Heap) : List (Addr × Obj) := fp.filterMap fun b => (h.get? b).map fun o => (b, o)
theorem mem_pinsAt {fp : List Addr} {h : Heap} {b : Addr} {o : Obj} (hb : b ∈ fp) (e : h.get? b = some o) : (b, o) ∈ pinsAt fp h := List.mem_filterMap.mpr ⟨b, hb, by rw [e]; rfl⟩
theorem of_pinsAt {fp : List Addr} {h : Heap} {p : Addr × Obj} (hp : p ∈ pinsAt fp h) : p.1 ∈ fp ∧ h.get? p.1 = some p.2 := by
  obtain ⟨b, hb, e⟩ := List.mem_filterMap.mp hp
  cases q : h.get? b with
  | none => rw [q] at e; cases e
  | some o =>
    rw [q] at e
    have e' : (b, o) = p := Option.some.inj e
    subst e'
    exact ⟨hb, q⟩
theorem Inv.pinned {pins : List (Addr × Obj)} {σ : St} {H : Hp} {s : Shared} {fp : List Addr} (I : Inv X pins σ H s) (hf : ∀ b ∈ fp, FpOk X pins H b) (ho : ∀ b ∈ fp, ∃ o, s.heap.get? b = some o ∧ ∀ v, o.data ≠ .cell v) : Inv X (pins ++ pinsAt fp s.heap) σ H s :=
  I.pins_of fun p hp => (List.mem_append.mp hp).elim (fun z => I.pin p (List.mem_append_right _ z)) fun z => by
    obtain ⟨hb, e⟩ := of_pinsAt z
    obtain ⟨f0, f1, f2, _⟩ := hf p.1 hb
    obtain ⟨o, e', d⟩ := ho p.1 hb
    rw [e] at e'; cases e'
    exact ⟨e, f0, f1, f2, d⟩
theorem Inv.unpinned {pins pl : List (Addr × Obj)} {σ : St} {H : Hp} {s : Shared} (I : Inv X (pins ++ pl) σ H s) : Inv X pins σ H s := I.pins_of fun p hp => I.pin p (List.mem_append_right _ (List.mem_append_left _ hp))
theorem ps_for {iter : Expr} {body : List Stmt} {wi : TI} {g : TG} {tb : TS} {pos : Pos} (hp : PassesOwn (model X.prog X.w) X.A X.env X.xe) (hc : X.calm = true) (hi : PI X tg iter wi) (hg : PG X tg g) (hb : PSs X body tb)
    (hs : ∀ x, foldedSetIterable iter X.env x = pure x := by intro _; rfl) : PS X (.For tg iter body [] pos) (tFor wi g tb) := by
  intro pins s σ H D I h
  refine wpAny_For (thn (hi pins s σ H _ I h) fun v s1 h1 => thn h1 fun itv s2 h2 => ?_) hs
  obtain ⟨it, fp, tn, J, H2, e, I2, T, st2, f2, W, ⟨m0, w0⟩, turn⟩ := h2
  subst e
  -- what stays true of the iterator's objects through the loop
  have stat : ∀ {H' : Hp}, (∀ b ∈ fp, H' b = none) → ∀ b ∈ fp, FpOk X pins H' b := fun hn b hb => ⟨hn b hb, (f2 b hb).2⟩
  refine codeAny_forLoop_any (fun n s' => ∃ i σ' H', Inv X pins σ' H' s' ∧ tn i s'.heap ∧ (∀ b ∈ fp, H' b = none) ∧ W i n σ' H') ?_ m0 ⟨0, σ, H2, I2, st2, fun b hb => (f2 b hb).1, w0⟩
  rintro n s3 ⟨i, σ3, H3, I3, st3, fr3, w3⟩
  rcases turn i n σ3 H3 w3 with ⟨stop, qn⟩ | ⟨go, N, hN, step⟩
  · refine wpAny_passesOwn hp (thn (T.done X rfl rfl rfl hc i pins s3 σ3 H3 X.xe I3 (stat fr3) st3 stop) fun r s4 ⟨hr, I4⟩ => ?_)
    subst hr
    exact wpAny_execs_nil ⟨σ3, H3, I4, qn⟩
  · refine wpAny_passesOwn hp (thn (T.item X rfl rfl rfl hc i pins s3 σ3 H3 X.xe I3 (stat fr3) st3 go) fun r s4 ⟨u, hr, h4⟩ => ?_)
    subst hr
    refine wpAny_passesOwn hp (thn h4 fun _ s5 ⟨x, H5, I5, r5, y5, st5, fr5⟩ => ?_)
    have I5' := I5.pinned (stat fr5) (T.obj _ _ st5)
    refine wpAny_passesOwn hp (thn (hg _ s5 σ3 H5 x u _ I5' r5 (step x H5 y5)) fun _ s6 ⟨σ6, H6, I6, q6⟩ => ?_)
    refine wpAny_passesOwn hp (thn (hb _ s6 σ6 H6 _ I6 q6) fun f s7 q7 => ?_)
    have again : ∀ {σ7 : St} {H7 : Hp}, Inv X (pins ++ pinsAt fp s5.heap) σ7 H7 s7 → N σ7 H7 → ∃ m, m < n ∧ ∃ i σ' H', Inv X pins σ' H' s7 ∧ tn i s7.heap ∧ (∀ b ∈ fp, H' b = none) ∧ W i m σ' H' := fun {σ7 H7} I7 n7 => by
      obtain ⟨m', hm, w7⟩ := hN σ7 H7 n7
      refine ⟨m', hm, i + 1, σ7, H7, I7.unpinned, T.keep _ _ _ st5 fun b hb o e => (I7.pin (b, o) (List.mem_append_right _ (List.mem_append_right _ (mem_pinsAt hb e)))).1, fun b hb => ?_, w7⟩
      obtain ⟨o, e, d⟩ := T.obj _ _ st5 b hb
      exact (I7.pin (b, o) (List.mem_append_right _ (List.mem_append_right _ (mem_pinsAt hb e)))).2.1
    cases f with
    | next => obtain ⟨σ7, H7, I7, n7⟩ := q7; exact again I7 n7
    | cont => obtain ⟨σ7, H7, I7, n7⟩ := q7; exact again I7 n7
    | brk => obtain ⟨σ7, H7, I7, q7⟩ := q7; exact ⟨σ7, H7, I7.unpinned, q7⟩
    | ret v => obtain ⟨x7, σ7, H7, I7, r7, q7⟩ := q7; exact ⟨x7, σ7, H7, I7.unpinned, r7, q7⟩
end

/-! ### the forms one uses -/
/-- over a list that the body leaves as it is -/
theorem for_list {K : PySem.W.Frag} {a : Addr} {xs : List V} {g : TG} {tb : TS} {D : Ends} {σ : St} {H : Hp} (Pv : Nat → St → Hp → Prop) (h0 : Pv 0 σ H) (hl : ∀ i σ H, i ≤ xs.length → Pv i σ H → SqL K H a xs)
    (hs : ∀ i x σ H, xs[i]? = some x → Pv i σ H → g x σ H fun σ2 H2 => tb { D with nx := Pv (i + 1), ct := Pv (i + 1), bk := D.nx } σ2 H2) (hd : ∀ σ H, Pv xs.length σ H → D.nx σ H) :
    ∃ W : Nat → Nat → St → Hp → Prop, (∃ m, W 0 m σ H) ∧ ∀ i m σ H, W i m σ H →
      ((Itl K a).stop i H ∧ D.nx σ H) ∨ ((Itl K a).go i H ∧ ∃ N : St → Hp → Prop, (∀ σ' H', N σ' H' → ∃ m', m' < m ∧ W (i + 1) m' σ' H') ∧ ∀ x H', (Itl K a).yld i H x H' → g x σ H' fun σ2 H2 => tb { D with nx := N, ct := N, bk := D.nx } σ2 H2) := by
  refine ⟨fun i m σ H => m = xs.length - i ∧ i ≤ xs.length ∧ Pv i σ H, ⟨xs.length, by simp, Nat.zero_le _, h0⟩, ?_⟩
  rintro i m σ H ⟨rfl, hi, p⟩
  have q := hl i σ H hi p
  by_cases hlt : i < xs.length
  · refine .inr ⟨⟨xs, xs[i], q, by simp [hlt]⟩, Pv (i + 1), fun σ' H' p' => ⟨xs.length - (i + 1), by omega, rfl, hlt, p'⟩, fun x H' y => ?_⟩
    obtain ⟨e, y⟩ := y
    subst e
    exact hs i x σ _ (y xs q) p
  · have e : i = xs.length := by omega
    subst e
    exact .inl ⟨⟨xs, q, Nat.le_refl _⟩, hd σ H p⟩
theorem for_tup {K : PySem.W.Frag} {a : Addr} {xs : List V} {g : TG} {tb : TS} {D : Ends} {σ : St} {H : Hp} (Pv : Nat → St → Hp → Prop) (h0 : Pv 0 σ H) (hl : ∀ i σ H, i ≤ xs.length → Pv i σ H → SqT K H a xs)
    (hs : ∀ i x σ H, xs[i]? = some x → Pv i σ H → g x σ H fun σ2 H2 => tb { D with nx := Pv (i + 1), ct := Pv (i + 1), bk := D.nx } σ2 H2) (hd : ∀ σ H, Pv xs.length σ H → D.nx σ H) :
    ∃ W : Nat → Nat → St → Hp → Prop, (∃ m, W 0 m σ H) ∧ ∀ i m σ H, W i m σ H →
      ((Itt K a).stop i H ∧ D.nx σ H) ∨ ((Itt K a).go i H ∧ ∃ N : St → Hp → Prop, (∀ σ' H', N σ' H' → ∃ m', m' < m ∧ W (i + 1) m' σ' H') ∧ ∀ x H', (Itt K a).yld i H x H' → g x σ H' fun σ2 H2 => tb { D with nx := N, ct := N, bk := D.nx } σ2 H2) := by
  refine ⟨fun i m σ H => m = xs.length - i ∧ i ≤ xs.length ∧ Pv i σ H, ⟨xs.length, by simp, Nat.zero_le _, h0⟩, ?_⟩
  rintro i m σ H ⟨rfl, hi, p⟩
  have q := hl i σ H hi p
  by_cases hlt : i < xs.length
  · refine .inr ⟨⟨xs, xs[i], q, by simp [hlt]⟩, Pv (i + 1), fun σ' H' p' => ⟨xs.length - (i + 1), by omega, rfl, hlt, p'⟩, fun x H' y => ?_⟩
    obtain ⟨e, y⟩ := y
    subst e
    exact hs i x σ _ (y xs q) p
  · have e : i = xs.length := by omega
    subst e
    exact .inl ⟨⟨xs, q, Nat.le_refl _⟩, hd σ H p⟩
theorem for_range {lo : Int} {n : Nat} {g : TG} {tb : TS} {D : Ends} {σ : St} {H : Hp} (Pv : Nat → St → Hp → Prop) (h0 : Pv 0 σ H)
    (hs : ∀ i σ H, i < n → Pv i σ H → g (.int (lo + i)) σ H fun σ2 H2 => tb { D with nx := Pv (i + 1), ct := Pv (i + 1), bk := D.nx } σ2 H2) (hd : ∀ σ H, Pv n σ H → D.nx σ H) :
    ∃ W : Nat → Nat → St → Hp → Prop, (∃ m, W 0 m σ H) ∧ ∀ i m σ H, W i m σ H →
      ((Itr lo n).stop i H ∧ D.nx σ H) ∨ ((Itr lo n).go i H ∧ ∃ N : St → Hp → Prop, (∀ σ' H', N σ' H' → ∃ m', m' < m ∧ W (i + 1) m' σ' H') ∧ ∀ x H', (Itr lo n).yld i H x H' → g x σ H' fun σ2 H2 => tb { D with nx := N, ct := N, bk := D.nx } σ2 H2) := by
  refine ⟨fun i m σ H => m = n - i ∧ i ≤ n ∧ Pv i σ H, ⟨n, by simp, Nat.zero_le _, h0⟩, ?_⟩
  rintro i m σ H ⟨rfl, hi, p⟩
  by_cases hlt : i < n
  · refine .inr ⟨hlt, Pv (i + 1), fun σ' H' p' => ⟨n - (i + 1), by omega, rfl, hlt, p'⟩, fun x H' y => ?_⟩
    obtain ⟨e, y⟩ := y
    subst e y
    exact hs i σ _ hlt p
  · have e : i = n := by omega
    subst e
    exact .inl ⟨Nat.le_refl _, hd σ H p⟩
/-- while, by a word and a measure of the state -/
theorem while_by {c : TT} {tb : TS} {D : Ends} {σ : St} {H : Hp} (Pv : St → Hp → Prop) (μ : St → Hp → Nat) (h0 : Pv σ H)
    (hs : ∀ σ H, Pv σ H → c σ H fun b H1 => if b = true then tb { D with nx := fun σ' H' => Pv σ' H' ∧ μ σ' H' < μ σ H, ct := fun σ' H' => Pv σ' H' ∧ μ σ' H' < μ σ H, bk := D.nx } σ H1 else D.nx σ H1)
    (mono : ∀ σ H Q Q', (∀ b H1, Q b H1 → Q' b H1) → c σ H Q → c σ H Q') : tWhile c tb D σ H := by
  refine ⟨fun m σ H => m = μ σ H ∧ Pv σ H, ⟨_, rfl, h0⟩, ?_⟩
  rintro m σ H ⟨rfl, p⟩
  refine mono σ H _ _ (fun b H1 q => ?_) (hs σ H p)
  cases b with
  | true => exact ⟨_, fun σ' H' ⟨p', l⟩ => ⟨_, l, rfl, p'⟩, q⟩
  | false => exact q
end L2

namespace L2
open PySem PySem.Spec PyProof.Rows

abbrev R2 := V → V → Hp → VK → Prop
/-- a two-place operation on values: f is binaryOp op, inplaceOp op or compareOp op -/
def OpR (X : Cx) (f : Value → Value → Sem Value) (r : R2) : Prop :=
  ∀ (pins : List (Addr × Obj)) (s : Shared) (σ : St) (H : Hp) (x y : V) (v u : Value) (Q : VK), Inv X pins σ H s → RelV x v → RelV y u → r x y H Q →
    wpAny (model X.prog X.w) X.A (f v u) (EP X pins σ Q) X.xe s
/-- a one-place operation -/
def UnR (X : Cx) (f : Value → Sem Value) (r : V → Hp → VK → Prop) : Prop :=
  ∀ (pins : List (Addr × Obj)) (s : Shared) (σ : St) (H : Hp) (x : V) (v : Value) (Q : VK), Inv X pins σ H s → RelV x v → r x H Q →
    wpAny (model X.prog X.w) X.A (f v) (EP X pins σ Q) X.xe s
/-- a call of a value that is known (a builtin, a type) with values -/
def CallR (X : Cx) (f : Value) (r : List V → Hp → VK → Prop) : Prop :=
  ∀ (pins : List (Addr × Obj)) (s : Shared) (σ : St) (H : Hp) (xs : List V) (us : List Value) (Q : VK), Inv X pins σ H s → Vals xs us → r xs H Q →
    wpAny (model X.prog X.w) X.A (call f us) (EP X pins σ Q) X.xe s
/-- a value's truth -/
def TruR (X : Cx) (r : V → Hp → (Bool → Hp → Prop) → Prop) : Prop :=
  ∀ (pins : List (Addr × Obj)) (s : Shared) (σ : St) (H : Hp) (x : V) (v : Value) (Q : Bool → Hp → Prop), Inv X pins σ H s → RelV x v → r x H Q →
    wpAny (model X.prog X.w) X.A (truthy v) (TP X pins σ Q) X.xe s

def tOp (r : R2) (ta tb : TE) : TE := fun σ H Q => ta σ H fun x H1 => tb σ H1 fun y H2 => r x y H2 Q
def tUn (r : V → Hp → VK → Prop) (ta : TE) : TE := fun σ H Q => ta σ H fun x H1 => r x H1 Q
/-- ints in, under C, and a value out -/
def rI (C : Int → Int → Prop) (g : Int → Int → V) : R2 := fun x y H Q => ∃ i j, x = .int i ∧ y = .int j ∧ C i j ∧ Q (g i j) H
def rI0 (g : Int → Int → V) : R2 := fun x y H Q => ∃ i j, x = .int i ∧ y = .int j ∧ Q (g i j) H
def rU (g : Int → V) : V → Hp → VK → Prop := fun x H Q => ∃ i, x = .int i ∧ Q (g i) H

section
variable {X : Cx} {a b c : Expr} {ta tb tc : TE} {pos : Pos}

theorem binT (ha : PE X a ta) (hb : PE X b tb) {pins : List (Addr × Obj)} {s : Shared} {σ : St} {H : Hp} {R : V → V → Hp → Prop} (I : Inv X pins σ H s)
    (h : ta σ H fun x H1 => tb σ H1 fun y H2 => R x y H2) {Q : Value → Shared → Prop} {f : Value → Value → Sem Value}
    (hf : ∀ v u s2 x y H2, Inv X pins σ H2 s2 → RelV x v → RelV y u → R x y H2 → wpAny (model X.prog X.w) X.A (f v u) Q X.xe s2) :
    wpAny (model X.prog X.w) X.A (eval a X.env) (fun v s₁ => wpAny (model X.prog X.w) X.A (eval b X.env) (fun u s₂ => wpAny (model X.prog X.w) X.A (f v u) Q X.xe s₂) X.xe s₁) X.xe s := by
  refine thn (ha pins s σ H _ I h) fun v s1 ⟨x, H1, I1, r1, q1⟩ => ?_
  refine thn (hb pins s1 σ H1 _ I1 q1) fun u s2 ⟨y, H2, I2, r2, q2⟩ => ?_
  exact hf v u s2 x y H2 I2 r1 r2 q2

theorem pe_op {op : Operator} {r : R2} (ho : OpR X (binaryOp op) r) (ha : PE X a ta) (hb : PE X b tb) : PE X (.BinOp a op b pos) (tOp r ta tb) := by
  intro pins s σ H Q I h
  exact wpAny_BinOp (binT ha hb I h fun v u s2 x y H2 I2 rx ry q => ho pins s2 σ H2 x y v u Q I2 rx ry q)
theorem pe_un {op : UnaryOp} {r : V → Hp → VK → Prop} (ho : UnR X (unaryOp op) r) (ha : PE X a ta) : PE X (.UnaryOp op a pos) (tUn r ta) := by
  intro pins s σ H Q I h
  exact UnaryOp_ (thn (ha pins s σ H _ I h) fun v s1 ⟨x, H1, I1, r1, q1⟩ => ho pins s1 σ H1 x v Q I1 r1 q1)
/-- a op= e at a name: the name's slot i -/
theorem augR {op : Operator} {r : R2} (ho : OpR X (inplaceOp op) r) {pins : List (Addr × Obj)} {s : Shared} {σ : St} {H : Hp} {x y : V} {v u : Value} {Q : VK} (I : Inv X pins σ H s)
    (rx : RelV x v) (ry : RelV y u) (q : r x y H Q) : wpAny (model X.prog X.w) X.A (inplaceOp op v u) (EP X pins σ Q) X.xe s := ho pins s σ H x y v u Q I rx ry q

/-! ### ints -/
theorem opI {f : Value → Value → Sem Value} {C : Int → Int → Prop} {g : Int → Int → Int}
    (rule : ∀ (i j : Int) (t u : Tok) (s : Shared) (Q : Value → Shared → Prop) (E : Value → Shared → Prop), C i j → Q (.int (g i j) s.toks) { s with toks := s.toks + 1 } → wpAny (model X.prog X.w) X.A (f (.int i t) (.int j u)) Q E s) :
    OpR X f (rI C fun i j => .int (g i j)) := by
  intro pins s σ H x y v u Q I rx ry h
  obtain ⟨i, j, rfl, rfl, hc, q⟩ := h
  obtain ⟨t, rfl⟩ := rx
  obtain ⟨t', rfl⟩ := ry
  exact rule i j t t' s _ _ hc ⟨.int (g i j), H, I.tok _, ⟨_, rfl⟩, q⟩
theorem opI0 {f : Value → Value → Sem Value} {g : Int → Int → Int}
    (rule : ∀ (i j : Int) (t u : Tok) (s : Shared) (Q : Value → Shared → Prop) (E : Value → Shared → Prop), Q (.int (g i j) s.toks) { s with toks := s.toks + 1 } → wpAny (model X.prog X.w) X.A (f (.int i t) (.int j u)) Q E s) :
    OpR X f (rI0 fun i j => .int (g i j)) := by
  intro pins s σ H x y v u Q I rx ry h
  obtain ⟨i, j, rfl, rfl, q⟩ := h
  obtain ⟨t, rfl⟩ := rx
  obtain ⟨t', rfl⟩ := ry
  exact rule i j t t' s _ _ ⟨.int (g i j), H, I.tok _, ⟨_, rfl⟩, q⟩
theorem opB0 {f : Value → Value → Sem Value} {g : Int → Int → Bool}
    (rule : ∀ (i j : Int) (t u : Tok) (s : Shared) (Q : Value → Shared → Prop) (E : Value → Shared → Prop), Q (.bool (g i j)) s → wpAny (model X.prog X.w) X.A (f (.int i t) (.int j u)) Q E s) :
    OpR X f (rI0 fun i j => .bl (g i j)) := by
  intro pins s σ H x y v u Q I rx ry h
  obtain ⟨i, j, rfl, rfl, q⟩ := h
  obtain ⟨t, rfl⟩ := rx
  obtain ⟨t', rfl⟩ := ry
  exact rule i j t t' s _ _ ⟨.bl (g i j), H, I, rfl, q⟩

def CDiv (i j : Int) : Prop := 0 < j ∧ j < 1073741824
def CDivN (i j : Int) : Prop := j ≠ 0 ∧ j.natAbs < 1073741824
def CPow (i j : Int) : Prop := 0 ≤ j ∧ j ≤ 1000000 ∧ i.natAbs < 2 ^ 64
def CMul (i j : Int) : Prop := (-(2 ^ 64) < i ∧ i < 2 ^ 64) ∨ (-(2 ^ 64) < j ∧ j < 2 ^ 64)
theorem CMul.ok {i j : Int} (h : CMul i j) : IntMulOk i j := by
  rcases h with ⟨h1, h2⟩ | ⟨h1, h2⟩
  · exact .of_left (intBits_le_64 h1 h2)
  · exact .of_right (intBits_le_64 h1 h2)
theorem two_pow_nn (k : Nat) : (0 : Int) ≤ 2 ^ k := by
  rw [two_pow_cast]
  exact Int.natCast_nonneg _

theorem op_add : OpR X (binaryOp .Add) (rI0 fun i j => .int (i + j)) := opI0 fun _ _ _ _ _ _ _ q => add_int q
theorem op_sub : OpR X (binaryOp .Sub) (rI0 fun i j => .int (i - j)) := opI0 fun _ _ _ _ _ _ _ q => sub_int q
theorem op_mul : OpR X (binaryOp .Mult) (rI CMul fun i j => .int (i * j)) := opI fun _ _ _ _ _ _ _ hc q => mul_int q hc.ok
/-- // by a positive divisor -/
theorem op_fdiv : OpR X (binaryOp .FloorDiv) (rI CDiv fun i j => .int (i / j)) := opI fun i j _ _ _ _ _ hc q => by
  have h1 : (0 : Int) < j := hc.1
  have h2 : j < 1073741824 := hc.2
  exact floordiv_int (by omega) (by rw [Int.fdiv_eq_ediv_of_nonneg i (by omega)]; exact q) (.inl (PyProof.noPylong_small (by omega)))
theorem op_fdivN : OpR X (binaryOp .FloorDiv) (rI CDivN fun i j => .int (i.fdiv j)) := opI fun _ _ _ _ _ _ _ hc q => floordiv_int hc.1 q (.inl (PyProof.noPylong_small hc.2))
/-- % by a positive divisor of any size -/
theorem op_mod : OpR X (binaryOp .Mod) (rI (fun _ j => 0 < j) fun i j => .int (i % j)) := opI fun i j _ _ _ _ _ hc q => by
  have h1 : (0 : Int) < j := hc
  exact mod_int' (by omega) (by rw [Int.fmod_eq_emod_of_nonneg i (by omega)]; exact q)
theorem op_modN : OpR X (binaryOp .Mod) (rI (fun _ j => j ≠ 0) fun i j => .int (i.fmod j)) := opI fun _ _ _ _ _ _ _ hc q => mod_int' hc q
theorem op_pow : OpR X (binaryOp .Pow) (rI CPow fun i j => .int (i ^ j.toNat)) := opI fun _ _ _ _ _ _ _ hc q => pow_int_small hc.1 hc.2.1 hc.2.2 q
theorem op_shl : OpR X (binaryOp .LShift) (rI CPow fun i j => .int (i * 2 ^ j.toNat)) := opI fun _ _ _ _ _ _ _ hc q => lshift_int_small hc.1 hc.2.1 hc.2.2 q
theorem op_shr : OpR X (binaryOp .RShift) (rI (fun _ j => 0 ≤ j) fun i j => .int (i / 2 ^ j.toNat)) := opI fun i j _ _ _ _ _ hc q =>
  rshift_int hc (by rw [Int.fdiv_eq_ediv_of_nonneg i (two_pow_nn _)]; exact q)
theorem op_and : OpR X (binaryOp .BitAnd) (rI0 fun i j => .int (Builtin.bitAnd i j)) := opI0 fun _ _ _ _ _ _ _ q => and_int q
theorem op_or : OpR X (binaryOp .BitOr) (rI0 fun i j => .int (Builtin.bitOr i j)) := opI0 fun _ _ _ _ _ _ _ q => or_int q
theorem op_xor : OpR X (binaryOp .BitXor) (rI0 fun i j => .int (Builtin.bitXor i j)) := opI0 fun _ _ _ _ _ _ _ q => xor_int q

theorem iop_add : OpR X (inplaceOp .Add) (rI0 fun i j => .int (i + j)) := opI0 fun _ _ _ _ _ _ _ q => iadd_int q
theorem iop_sub : OpR X (inplaceOp .Sub) (rI0 fun i j => .int (i - j)) := opI0 fun _ _ _ _ _ _ _ q => isub_int q
theorem iop_mul : OpR X (inplaceOp .Mult) (rI CMul fun i j => .int (i * j)) := opI fun _ _ _ _ _ _ _ hc q => imul_int q hc.ok
theorem iop_fdiv : OpR X (inplaceOp .FloorDiv) (rI CDiv fun i j => .int (i / j)) := opI fun i j _ _ _ _ _ hc q => by
  have h1 : (0 : Int) < j := hc.1
  have h2 : j < 1073741824 := hc.2
  exact ifloordiv_int (by omega) (by rw [Int.fdiv_eq_ediv_of_nonneg i (by omega)]; exact q) (.inl (PyProof.noPylong_small (by omega)))
theorem iop_mod : OpR X (inplaceOp .Mod) (rI (fun _ j => 0 < j) fun i j => .int (i % j)) := opI fun i j _ _ _ _ _ hc q => by
  have h1 : (0 : Int) < j := hc
  exact imod_int (by omega) (by rw [Int.fmod_eq_emod_of_nonneg i (by omega)]; exact q)
theorem iop_shl : OpR X (inplaceOp .LShift) (rI CPow fun i j => .int (i * 2 ^ j.toNat)) := opI fun _ _ _ _ _ _ _ hc q => ilshift_int_small hc.1 hc.2.1 hc.2.2 q
theorem iop_shr : OpR X (inplaceOp .RShift) (rI (fun _ j => 0 ≤ j) fun i j => .int (i / 2 ^ j.toNat)) := opI fun i j _ _ _ _ _ hc q =>
  irshift_int hc (by rw [Int.fdiv_eq_ediv_of_nonneg i (two_pow_nn _)]; exact q)
theorem iop_and : OpR X (inplaceOp .BitAnd) (rI0 fun i j => .int (Builtin.bitAnd i j)) := opI0 fun _ _ _ _ _ _ _ q => iand_int q
theorem iop_or : OpR X (inplaceOp .BitOr) (rI0 fun i j => .int (Builtin.bitOr i j)) := opI0 fun _ _ _ _ _ _ _ q => ior_int q
theorem iop_xor : OpR X (inplaceOp .BitXor) (rI0 fun i j => .int (Builtin.bitXor i j)) := opI0 fun _ _ _ _ _ _ _ q => ixor_int q

theorem unI {f : Value → Sem Value} {g : Int → Int}
    (rule : ∀ (i : Int) (t : Tok) (s : Shared) (Q : Value → Shared → Prop) (E : Value → Shared → Prop), Q (.int (g i) s.toks) { s with toks := s.toks + 1 } → wpAny (model X.prog X.w) X.A (f (.int i t)) Q E s) :
    UnR X f (rU fun i => .int (g i)) := by
  intro pins s σ H x v Q I rx h
  obtain ⟨i, rfl, q⟩ := h
  obtain ⟨t, rfl⟩ := rx
  exact rule i t s _ _ ⟨.int (g i), H, I.tok _, ⟨_, rfl⟩, q⟩
theorem un_neg : UnR X (unaryOp .USub) (rU fun i => .int (-i)) := unI fun _ _ _ _ _ q => neg_int q
theorem un_inv : UnR X (unaryOp .Invert) (rU fun i => .int (Builtin.bitNot i)) := unI fun _ _ _ _ _ q => invert_int q

/-! ### bools among ints: n += (a < b) -/
theorem op_add_ib : OpR X (binaryOp .Add) (fun x y H Q => ∃ i k, x = .int i ∧ y = .bl k ∧ Q (.int (i + b2i k)) H) := by
  intro pins s σ H x y v u Q I rx ry h
  obtain ⟨i, k, rfl, rfl, q⟩ := h
  obtain ⟨t, rfl⟩ := rx
  cases ry
  exact add_int_bool ⟨.int (i + b2i k), H, I.tok _, ⟨_, rfl⟩, q⟩
end

/-! ### comparisons -/
/-- the scalars that == tells apart as data does -/
def scal : V → V → Bool
  | .non, .non => true | .non, .int _ => true | .int _, .non => true | .non, .bl _ => true | .bl _, .non => true | .non, .str _ => true | .str _, .non => true
  | .int _, .int _ => true | .bl _, .bl _ => true | .str _, .str _ => true | .byt _, .byt _ => true
  | .int _, .str _ => true | .str _, .int _ => true | .bl _, .str _ => true | .str _, .bl _ => true
  | _, _ => false
def rEq : R2 := fun x y H Q => scal x y = true ∧ Q (.bl (decide (x = y))) H
def rNe : R2 := fun x y H Q => scal x y = true ∧ Q (.bl (!decide (x = y))) H

theorem dec_int {i j : Int} : decide (V.int i = V.int j) = (i == j) := by
  rw [Bool.eq_iff_iff]
  simp
theorem dec_bl {i j : Bool} : decide (V.bl i = V.bl j) = (i == j) := by
  rw [Bool.eq_iff_iff]
  simp
theorem dec_str {i j : Str} : decide (V.str i = V.str j) = (i == j) := by
  rw [Bool.eq_iff_iff]
  simp
theorem dec_byt {i j : Array UInt8} : decide (V.byt i = V.byt j) = (i.toList == j.toList) := by
  rw [Bool.eq_iff_iff]
  cases i
  cases j
  simp

section
variable {X : Cx} {a b c : Expr} {ta tb tc : TE} {pos : Pos}
theorem fin_bl {pins : List (Addr × Obj)} {σ : St} {H : Hp} {s : Shared} {Q : VK} {k k' : Bool} (I : Inv X pins σ H s) (q : Q (.bl k) H) (e : k = k') : EP X pins σ Q (.bool k') s := by
  subst e
  exact ⟨.bl k, H, I, rfl, q⟩
theorem op_eq : OpR X (compareOp .Eq) rEq := by
  intro pins s σ H x y v u Q I rx ry h
  obtain ⟨hs, q⟩ := h
  cases x with
  | non =>
    cases rx
    cases y with
    | non => cases ry; exact PySem.EqNone.eq_none_none (fin_bl I q (by simp))
    | bl j => cases ry; exact PySem.EqNone.eq_none_bool (fin_bl I q (by simp))
    | int j => obtain ⟨t', rfl⟩ := ry; exact PySem.EqNone.eq_none_int (fin_bl I q (by simp))
    | str j => obtain ⟨t', rfl⟩ := ry; exact PySem.EqNone.eq_none_str (fin_bl I q (by simp))
    | _ => exact absurd (show false = true from hs) Bool.false_ne_true
  | bl i =>
    cases rx
    cases y with
    | non => cases ry; exact PySem.EqNone.eq_bool_none (fin_bl I q (by simp))
    | bl j => cases ry; exact eq_bool (fin_bl I q dec_bl)
    | str j => obtain ⟨t', rfl⟩ := ry; exact PySem.EqMixed.eq_bool_str (fin_bl I q (by simp))
    | _ => exact absurd (show false = true from hs) Bool.false_ne_true
  | int i =>
    obtain ⟨t, rfl⟩ := rx
    cases y with
    | non => cases ry; exact PySem.EqNone.eq_int_none (fin_bl I q (by simp))
    | int j => obtain ⟨t', rfl⟩ := ry; exact eq_int (fin_bl I q dec_int)
    | str j => obtain ⟨t', rfl⟩ := ry; exact PySem.EqMixed.eq_int_str (fin_bl I q (by simp))
    | _ => exact absurd (show false = true from hs) Bool.false_ne_true
  | str i =>
    obtain ⟨t, rfl⟩ := rx
    cases y with
    | non => cases ry; exact PySem.EqNone.eq_str_none (fin_bl I q (by simp))
    | bl j => cases ry; exact PySem.EqMixed.eq_str_bool (fin_bl I q (by simp))
    | int j => obtain ⟨t', rfl⟩ := ry; exact PySem.EqMixed.eq_str_int (fin_bl I q (by simp))
    | str j => obtain ⟨t', rfl⟩ := ry; exact eq_str (fin_bl I q dec_str)
    | _ => exact absurd (show false = true from hs) Bool.false_ne_true
  | byt i =>
    obtain ⟨t, rfl⟩ := rx
    cases y with
    | byt j => obtain ⟨t', rfl⟩ := ry; exact PySem.W.eq_bytes (fin_bl I q dec_byt)
    | _ => exact absurd (show false = true from hs) Bool.false_ne_true
  | _ => cases y <;> exact absurd (show false = true from hs) Bool.false_ne_true
theorem op_ne : OpR X (compareOp .NotEq) rNe := by
  intro pins s σ H x y v u Q I rx ry h
  obtain ⟨hs, q⟩ := h
  cases x with
  | non =>
    cases rx
    cases y with
    | non => cases ry; exact PySem.EqNone.ne_none_none (fin_bl I q (by simp))
    | bl j => cases ry; exact PySem.EqNone.ne_none_bool (fin_bl I q (by simp))
    | int j => obtain ⟨t', rfl⟩ := ry; exact PySem.EqNone.ne_none_int (fin_bl I q (by simp))
    | str j => obtain ⟨t', rfl⟩ := ry; exact PySem.EqNone.ne_none_str (fin_bl I q (by simp))
    | _ => exact absurd (show false = true from hs) Bool.false_ne_true
  | bl i =>
    cases rx
    cases y with
    | non => cases ry; exact PySem.EqNone.ne_bool_none (fin_bl I q (by simp))
    | bl j => cases ry; exact ne_bool (fin_bl I q (congrArg not dec_bl))
    | str j => obtain ⟨t', rfl⟩ := ry; exact PySem.EqMixed.ne_bool_str (fin_bl I q (by simp))
    | _ => exact absurd (show false = true from hs) Bool.false_ne_true
  | int i =>
    obtain ⟨t, rfl⟩ := rx
    cases y with
    | non => cases ry; exact PySem.EqNone.ne_int_none (fin_bl I q (by simp))
    | int j => obtain ⟨t', rfl⟩ := ry; exact ne_int (fin_bl I q (congrArg not dec_int))
    | str j => obtain ⟨t', rfl⟩ := ry; exact PySem.EqMixed.ne_int_str (fin_bl I q (by simp))
    | _ => exact absurd (show false = true from hs) Bool.false_ne_true
  | str i =>
    obtain ⟨t, rfl⟩ := rx
    cases y with
    | non => cases ry; exact PySem.EqNone.ne_str_none (fin_bl I q (by simp))
    | bl j => cases ry; exact PySem.EqMixed.ne_str_bool (fin_bl I q (by simp))
    | int j => obtain ⟨t', rfl⟩ := ry; exact PySem.EqMixed.ne_str_int (fin_bl I q (by simp))
    | str j => obtain ⟨t', rfl⟩ := ry; exact ne_str (fin_bl I q (congrArg not dec_str))
    | _ => exact absurd (show false = true from hs) Bool.false_ne_true
  | byt i =>
    obtain ⟨t, rfl⟩ := rx
    cases y with
    | byt j => obtain ⟨t', rfl⟩ := ry; exact PySem.W.ne_bytes (fin_bl I q (congrArg not dec_byt))
    | _ => exact absurd (show false = true from hs) Bool.false_ne_true
  | _ => cases y <;> exact absurd (show false = true from hs) Bool.false_ne_true

theorem op_lt : OpR X (compareOp .Lt) (rI0 fun i j => .bl (decide (i < j))) := opB0 fun _ _ _ _ _ _ _ q => lt_int q
theorem op_le : OpR X (compareOp .LtE) (rI0 fun i j => .bl (decide (i ≤ j))) := opB0 fun _ _ _ _ _ _ _ q => le_int q
theorem op_gt : OpR X (compareOp .Gt) (rI0 fun i j => .bl (decide (j < i))) := opB0 fun _ _ _ _ _ _ _ q => gt_int q
theorem op_ge : OpR X (compareOp .GtE) (rI0 fun i j => .bl (decide (j ≤ i))) := opB0 fun _ _ _ _ _ _ _ q => ge_int q
theorem op_lt_str : OpR X (compareOp .Lt) (fun x y H Q => ∃ i j, x = .str i ∧ y = .str j ∧ Q (.bl (decide (i.cps.toList < j.cps.toList))) H) := by
  intro pins s σ H x y v u Q I rx ry h
  obtain ⟨i, j, rfl, rfl, q⟩ := h
  obtain ⟨t, rfl⟩ := rx
  obtain ⟨t', rfl⟩ := ry
  exact lt_str (fin_bl I q rfl)
/-- the one string within the other -/
theorem op_in_str : OpR X (compareOp .In) (fun x y H Q => ∃ i j, x = .str i ∧ y = .str j ∧ Q (.bl (!(Builtin.Str.occurrences j i 0 j.length 1).isEmpty)) H) := by
  intro pins s σ H x y v u Q I rx ry h
  obtain ⟨i, j, rfl, rfl, q⟩ := h
  obtain ⟨t, rfl⟩ := rx
  obtain ⟨t', rfl⟩ := ry
  exact in_str (fin_bl I q rfl)

/-- is None, is not None: the right side a value none -/
theorem op_isN : OpR X (compareOp .Is) (fun x y H Q => y = .non ∧ Q (.bl (decide (x = .non))) H) := by
  intro pins s σ H x y v u Q I rx ry h
  obtain ⟨rfl, q⟩ := h
  cases ry
  refine is_none_gen (fin_bl I q ?_)
  cases x <;> first
    | (cases rx; rfl)
    | (obtain ⟨t, rfl⟩ := rx; rfl)
theorem op_notN : OpR X (compareOp .IsNot) (fun x y H Q => y = .non ∧ Q (.bl (!decide (x = .non))) H) := by
  intro pins s σ H x y v u Q I rx ry h
  obtain ⟨rfl, q⟩ := h
  cases ry
  refine isnot_none_gen (fin_bl I q ?_)
  cases x <;> first
    | (cases rx; rfl)
    | (obtain ⟨t, rfl⟩ := rx; rfl)

theorem op_notin_str : OpR X (compareOp .NotIn) (fun x y H Q => ∃ i j, x = .str i ∧ y = .str j ∧ Q (.bl (!(!(Builtin.Str.occurrences j i 0 j.length 1).isEmpty))) H) := by
  intro pins s σ H x y v u Q I rx ry h
  obtain ⟨i, j, rfl, rfl, q⟩ := h
  obtain ⟨t, rfl⟩ := rx
  obtain ⟨t', rfl⟩ := ry
  exact notIn_str (fin_bl I q rfl)
/-- is, is not of two objects that are tracked lists or instances -/
def isObj : HO → Bool
  | .lst _ => true
  | .ins _ _ _ => true
  | _ => false
theorem obj_there {pins : List (Addr × Obj)} {s : Shared} {σ : St} {H : Hp} {a : Addr} {o : HO} (I : Inv X pins σ H s) (h : H a = some o) (p : isObj o = true) : ∃ ob, s.heap.get? a = some ob ∧ ob.cls ≠ .type "tuple" := by
  cases o with
  | lst xs =>
    obtain ⟨_, its, n, _, e⟩ : xs.length ≤ sizeLine ∧ ∃ (its : List Value) (n : Nat), Vals xs its ∧ s.heap.get? a = some { cls := .type "list", data := .seq its.toArray n } := I.hok a _ h
    exact ⟨_, e, (by show Value.type "list" ≠ .type "tuple"; decide +kernel)⟩
  | ins C dx fs =>
    have x := I.hok a _ h
    obtain ⟨_, _, _, e, _⟩ := x
    exact ⟨_, e, (by show Value.ref C ≠ .type "tuple"; exact fun z => by cases z)⟩
  | _ => exact absurd (show false = true from p) Bool.false_ne_true
theorem op_is_ref : OpR X (compareOp .Is) (fun x y H Q => ∃ a b oa ob, x = .ref a ∧ y = .ref b ∧ H a = some oa ∧ isObj oa = true ∧ H b = some ob ∧ isObj ob = true ∧ Q (.bl (decide (a = b))) H) := by
  intro pins s σ H x y v u Q I rx ry h
  obtain ⟨a, b, oa, ob, rfl, rfl, ha, pa, hb, pb, q⟩ := h
  cases rx
  cases ry
  obtain ⟨o1, e1, n1⟩ := obj_there I ha pa
  obtain ⟨o2, e2, _⟩ := obj_there I hb pb
  by_cases z : a = b
  · subst z
    exact wpAny_is_ref_self (fin_bl I q (by simp))
  · exact wpAny_is_ref_other z e1 e2 n1 (fin_bl I q (by simp [z]))
theorem op_isnot_ref : OpR X (compareOp .IsNot) (fun x y H Q => ∃ a b oa ob, x = .ref a ∧ y = .ref b ∧ H a = some oa ∧ isObj oa = true ∧ H b = some ob ∧ isObj ob = true ∧ Q (.bl (!decide (a = b))) H) := by
  intro pins s σ H x y v u Q I rx ry h
  obtain ⟨a, b, oa, ob, rfl, rfl, ha, pa, hb, pb, q⟩ := h
  cases rx
  cases ry
  obtain ⟨o1, e1, n1⟩ := obj_there I ha pa
  obtain ⟨o2, e2, _⟩ := obj_there I hb pb
  by_cases z : a = b
  · subst z
    exact wpAny_isNot_ref_self (fin_bl I q (by simp))
  · exact wpAny_isNot_ref_other z e1 e2 n1 (fin_bl I q (by simp [z]))

/-- two rules for one operation: by cases -/
theorem OpR.or {f : Value → Value → Sem Value} {r r' : R2} (h : OpR X f r) (h' : OpR X f r') : OpR X f (fun x y H Q => r x y H Q ∨ r' x y H Q) := by
  intro pins s σ H x y v u Q I rx ry q
  rcases q with q | q
  · exact h pins s σ H x y v u Q I rx ry q
  · exact h' pins s σ H x y v u Q I rx ry q

theorem nomark (b : Expr) {op : CmpOp} (h : op ≠ .In := by decide) (h2 : op ≠ .NotIn := by decide) : behindInMarks op b = false := by
  have e1 : (op == CmpOp.In) = false := by cases op <;> first | rfl | exact absurd rfl h
  have e2 : (op == CmpOp.NotIn) = false := by cases op <;> first | rfl | exact absurd rfl h2
  cases b <;> simp [behindInMarks, e1, e2]
/-- a comparison as a value; hm: nomark b, or (for in, not in) by with_unfolding_all rfl -/
theorem pe_cmpR {op : CmpOp} {r : R2} (ho : OpR X (compareOp op) r) (ha : PE X a ta) (hb : PE X b tb) (hm : behindInMarks op b = false) : PE X (.Compare a [op] [b] pos) (tOp r ta tb) := by
  intro pins s σ H Q I h
  exact wpAny_Compare1 (binT ha hb I h fun v u s2 x y H2 I2 rx ry q => ho pins s2 σ H2 x y v u Q I2 rx ry q) hm
/-- a reading of a value as a test -/
def tTest (t : TE) : TT := fun σ H Q => t σ H fun x H' => ∃ k, x = .bl k ∧ Q k H'
theorem pt_cmpR {op : CmpOp} {r : R2} (ho : OpR X (compareOp op) r) (ha : PE X a ta) (hb : PE X b tb) (hm : behindInMarks op b = false) : PT X (.Compare a [op] [b] pos) (tTest (tOp r ta tb)) := by
  intro pins s σ H Q I h
  refine wpAny_isTrue_Compare1 (thn (ha pins s σ H _ I h) fun v s1 ⟨x, H1, I1, r1, q1⟩ => thn (hb pins s1 σ H1 _ I1 q1) fun u s2 ⟨y, H2, I2, r2, q2⟩ =>
    thn (ho pins s2 σ H2 x y v u _ I2 r1 r2 q2) fun c s3 ⟨z, H3, I3, r3, k, e, q3⟩ => ?_) hm
  subst e
  cases r3
  exact wpAny_truthy_bool ⟨H3, I3, q3⟩
/-- a op1 b op2 c -/
def tChain (r r' : R2) (ta tb tc : TE) : TE := fun σ H Q => ta σ H fun x H1 => tb σ H1 fun y H2 => r x y H2 fun z H3 => ∃ k, z = .bl k ∧
  (if k = true then tc σ H3 fun w' H4 => r' y w' H4 Q else Q (.bl false) H3)
theorem pe_chain {op op' : CmpOp} {r r' : R2} (ho : OpR X (compareOp op) r) (ho' : OpR X (compareOp op') r') (ha : PE X a ta) (hb : PE X b tb) (hc : PE X c tc)
    (hm : lastMarks [op, op'] [b, c] = false := by with_unfolding_all rfl) : PE X (.Compare a [op, op'] [b, c] pos) (tChain r r' ta tb tc) := by
  intro pins s σ H Q I h
  refine Compare_chain (thn (ha pins s σ H _ I h) fun v s1 ⟨x, H1, I1, r1, q1⟩ => chain_link (thn (hb pins s1 σ H1 _ I1 q1) fun u s2 ⟨y, H2, I2, r2, q2⟩ =>
    thn (ho pins s2 σ H2 x y v u _ I2 r1 r2 q2) fun d s3 ⟨z, H3, I3, r3, k, e, q3⟩ => ?_)) hm
  subst e
  cases r3
  refine wpAny_truthy_bool ?_
  cases k with
  | false => exact ite_ff ⟨.bl false, H3, I3, rfl, q3⟩
  | true => exact ite_tt (chain_last (thn (hc pins s3 σ H3 _ I3 q3) fun w' s4 ⟨z', H4, I4, r4, q4⟩ => ho' pins s4 σ H4 y z' u w' Q I4 r2 r4 q4))
theorem pt_chain {op op' : CmpOp} {r r' : R2} (ho : OpR X (compareOp op) r) (ho' : OpR X (compareOp op') r') (ha : PE X a ta) (hb : PE X b tb) (hc : PE X c tc)
    (hm : lastMarks [op, op'] [b, c] = false := by with_unfolding_all rfl) : PT X (.Compare a [op, op'] [b, c] pos) (tTest (tChain r r' ta tb tc)) := by
  intro pins s σ H Q I h
  refine isTrue_chain (thn (ha pins s σ H _ I h) fun v s1 ⟨x, H1, I1, r1, q1⟩ => test_link (thn (hb pins s1 σ H1 _ I1 q1) fun u s2 ⟨y, H2, I2, r2, q2⟩ =>
    thn (ho pins s2 σ H2 x y v u _ I2 r1 r2 q2) fun d s3 ⟨z, H3, I3, r3, k, e, q3⟩ => ?_)) hm
  subst e
  cases r3
  refine wpAny_truthy_bool ?_
  cases k with
  | false =>
    obtain ⟨k', e', q'⟩ := q3
    cases e'
    exact ite_ff ⟨H3, I3, q'⟩
  | true =>
    refine ite_tt (test_last (thn (hc pins s3 σ H3 _ I3 q3) fun w' s4 ⟨z', H4, I4, r4, q4⟩ => thn (ho' pins s4 σ H4 y z' u w' _ I4 r2 r4 q4) fun d' s5 ⟨z2, H5, I5, r5, k2, e2, q5⟩ => ?_))
    subst e2
    cases r5
    exact wpAny_truthy_bool ⟨H5, I5, q5⟩

/-! ### truth -/
/-- a value's truth by the abstract heap -/
def TruV (K : PySem.W.Frag) (x : V) (H : Hp) (k : Bool) : Prop :=
  match x with
  | .non => k = false
  | .bl b => k = b
  | .int i => k = (i != 0)
  | .str y => y.length ≤ sizeLine ∧ k = ((y.length : Int) != 0)
  | .byt y => y.size ≤ sizeLine ∧ k = ((y.size : Int) != 0)
  | .ref p => (∃ xs, SqL K H p xs ∧ k = !xs.isEmpty) ∨ (∃ xs, SqT K H p xs ∧ k = !xs.isEmpty) ∨ ∃ kvs, H p = some (.dK kvs) ∧ k = !kvs.isEmpty
  | _ => False
theorem isEmpty_kv {κ : Type} {kvs : List (κ × V)} {vs : List (κ × Value)} (r : KV kvs vs) : (!vs.isEmpty) = !kvs.isEmpty := by
  cases r <;> rfl
theorem isEmpty_of {xs : List V} {its : List Value} (r : Vals xs its) : (!its.toArray.isEmpty) = !xs.isEmpty := by
  cases r <;> simp
theorem line63 : (sizeLine : Nat) < 2 ^ 63 := by rw [sizeLine_eq]; decide
theorem tru_ok : TruR X (fun x H Q => ∃ k, TruV X.K x H k ∧ Q k H) := by
  intro pins s σ H x v Q I rx h
  obtain ⟨k, e, q⟩ := h
  have hl := line63
  have hs : sizeLine = 16777216 := sizeLine_eq
  cases x with
  | non =>
    cases rx
    have e' : k = false := e
    subst e'
    exact truthy_none ⟨H, I, q⟩
  | bl b =>
    cases rx
    have e' : k = b := e
    subst e'
    exact wpAny_truthy_bool ⟨H, I, q⟩
  | int i =>
    obtain ⟨t, rfl⟩ := rx
    have e' : k = (i != 0) := e
    subst e'
    exact PySem.P.truthy_int ⟨H, I, q⟩
  | str y =>
    obtain ⟨t, rfl⟩ := rx
    obtain ⟨hy, e'⟩ : y.length ≤ sizeLine ∧ k = ((y.length : Int) != 0) := e
    subst e'
    exact PySem.P.truthy_str (by omega) ⟨H, I.tok _, q⟩
  | byt y =>
    obtain ⟨t, rfl⟩ := rx
    obtain ⟨hy, e'⟩ : y.size ≤ sizeLine ∧ k = ((y.size : Int) != 0) := e
    subst e'
    exact PySem.W.truthy_bytes (by omega) ⟨H, I.tok _, q⟩
  | ref p =>
    cases rx
    have e' : (∃ xs, SqL X.K H p xs ∧ k = !xs.isEmpty) ∨ (∃ xs, SqT X.K H p xs ∧ k = !xs.isEmpty) ∨ ∃ kvs, H p = some (.dK kvs) ∧ k = !kvs.isEmpty := e
    rcases e' with ⟨xs, hx, e'⟩ | ⟨xs, hx, e'⟩ | ⟨kvs, hx, e'⟩
    · subst e'
      obtain ⟨its, r, pl, hz⟩ := I.list hx
      have hlen := r.length
      exact wpAny_truthy_list pl.isList (by simp only [List.size_toArray]; omega) ⟨H, I.tok _, by rw [isEmpty_of r]; exact q⟩
    · subst e'
      obtain ⟨its, r, pl, hz⟩ := I.tuple hx
      have hlen := r.length
      exact truthy_tuple pl (by simp only [List.size_toArray]; omega) ⟨H, I.tok _, by rw [isEmpty_of r]; exact q⟩
    · subst e'
      obtain ⟨hz, hS, vs, r, m⟩ : kvs.length ≤ sizeLine ∧ (p == sysModules) = false ∧ ∃ vs, KV kvs vs ∧ s.heap.DictOf (mixKind X.prog X.w) p vs := I.hok p _ hx
      have hlen : kvs.length = vs.length := Paired.length r
      exact wpAny_truthy_dict hS m (by omega) ⟨H, I.tok _, by rw [isEmpty_kv r]; exact q⟩
  | _ => exact (show False from e).elim
/-- any expression whose test is its value's truth (a name, a call, a subscript, a field ..: he by fun _ => rfl) -/
theorem pt_truth (ha : PE X a ta) (he : ∀ whole, isTrue a X.env whole = (do let v ← whole; standAt a.pos; holding [v] (truthy v))) :
    PT X a (fun σ H Q => ta σ H fun x H' => ∃ k, TruV X.K x H' k ∧ Q k H') := by
  intro pins s σ H Q I h
  exact isTrue_plain (thn (ha pins s σ H _ I h) fun v s1 ⟨x, H1, I1, r1, q1⟩ => tru_ok pins s1 σ H1 x v Q I1 r1 q1) (he _)

/-! ### strs and bytes -/
theorem pe_byt {x : List UInt8} {k : Nat} : PE X (.Constant (.bytes x) k pos) (fun _ H Q => Q (.byt x.toArray) H) := fun _ _ _ H _ I h => PySem.W.Constant_bytes ⟨.byt x.toArray, H, I.tok _, ⟨_, rfl⟩, h⟩
theorem op_add_str : OpR X (binaryOp .Add) (fun x y H Q => ∃ i j, x = .str i ∧ y = .str j ∧ i.length + j.length ≤ sizeLine ∧ Q (.str (i ++ j)) H) := by
  intro pins s σ H x y v u Q I rx ry h
  obtain ⟨i, j, rfl, rfl, hz, q⟩ := h
  obtain ⟨t, rfl⟩ := rx
  obtain ⟨t', rfl⟩ := ry
  exact add_str (fun t' tk => ⟨.str (i ++ j), H, I.tok _, ⟨_, rfl⟩, q⟩) hz
theorem iop_add_str : OpR X (inplaceOp .Add) (fun x y H Q => ∃ i j, x = .str i ∧ y = .str j ∧ i.length + j.length ≤ sizeLine ∧ Q (.str (i ++ j)) H) := by
  intro pins s σ H x y v u Q I rx ry h
  obtain ⟨i, j, rfl, rfl, hz, q⟩ := h
  obtain ⟨t, rfl⟩ := rx
  obtain ⟨t', rfl⟩ := ry
  exact iadd_str (fun t' tk => ⟨.str (i ++ j), H, I.tok _, ⟨_, rfl⟩, q⟩) hz
theorem op_add_byt : OpR X (binaryOp .Add) (fun x y H Q => ∃ i j, x = .byt i ∧ y = .byt j ∧ i.size + j.size ≤ 16777216 ∧ Q (.byt (i ++ j)) H) := by
  intro pins s σ H x y v u Q I rx ry h
  obtain ⟨i, j, rfl, rfl, hz, q⟩ := h
  obtain ⟨t, rfl⟩ := rx
  obtain ⟨t', rfl⟩ := ry
  exact PySem.W.KBy.add_bytes hz (fun t' tk => ⟨.byt (i ++ j), H, I.tok _, ⟨_, rfl⟩, q⟩)

def PlainIxT (b : Expr) : Prop := ∀ o i, subscripted b false o i = operate [o, i] (getItem o i)
/-- s[i], 0 ≤ i < len -/
theorem pe_item_str (ha : PE X a ta) (hb : PE X b tb) (hs : PlainIxT b) :
    PE X (.Subscript a b pos) (tOp (fun x y H Q => ∃ z i c, x = .str z ∧ y = .int i ∧ 0 ≤ i ∧ i < 2 ^ 63 ∧ i < z.length ∧ z.cps[i.toNat]? = some c ∧ Q (.str ⟨#[c]⟩) H) ta tb) := by
  intro pins s σ H Q I h
  refine Subscript_ (binT ha hb I h fun v u s2 x y H2 I2 rx ry q => ?_)
  obtain ⟨z, i, c, rfl, rfl, h0, h63, h1, hc, q⟩ := q
  obtain ⟨t, rfl⟩ := rx
  obtain ⟨t', rfl⟩ := ry
  have e : seqIndex? i z.length = some i.toNat := PySem.StrLaws.seqIndex_nonneg h0 h1
  exact tail_any (typeIs_str s2 z t) slot_str_getitem.lookup (getItem_str (c := c) (by
    have e1 : decide (i < -(2 ^ 63 : Int)) = false := decide_eq_false (by omega)
    have e2 : decide (i ≥ 2 ^ 63) = false := decide_eq_false (by omega)
    rw [e1, e2] <;> rfl) (by rw [e]; exact hc) ⟨.str ⟨#[c]⟩, H2, I2.tok _, ⟨_, rfl⟩, q⟩) (hs _ _)
/-- b[i], 0 ≤ i < len -/
theorem pe_item_byt (ha : PE X a ta) (hb : PE X b tb) (hs : PlainIxT b) :
    PE X (.Subscript a b pos) (tOp (fun x y H Q => ∃ (z : List UInt8) (i : Int), x = .byt z.toArray ∧ y = .int i ∧ z.length ≤ sizeLine ∧ 0 ≤ i ∧ i < z.length ∧ Q (.int ((z.getD i.toNat 0).toNat : Nat)) H) ta tb) := by
  intro pins s σ H Q I h
  refine Subscript_ (binT ha hb I h fun v u s2 x y H2 I2 rx ry q => ?_)
  obtain ⟨z, i, rfl, rfl, hz, h0, h1, q⟩ := q
  obtain ⟨t, rfl⟩ := rx
  obtain ⟨t', rfl⟩ := ry
  have hl : sizeLine = 16777216 := sizeLine_eq
  exact tail_any (PySem.W.typeIs_bytes s2 z.toArray t) PySem.W.FB.slot_bytes_getitem.lookup (PySem.W.getItem_bytes (by omega) h0 h1 ⟨.int ((z.getD i.toNat 0).toNat : Nat), H2, I2.tok _, ⟨_, rfl⟩, q⟩) (hs _ _)

/-! ### scalar builtins, by CallR -/
theorem vals1 {x : V} {us : List Value} (r : Vals [x] us) : ∃ u, us = [u] ∧ RelV x u := by
  cases r with
  | cons r1 r2 => cases r2; exact ⟨_, rfl, r1⟩
theorem vals2 {x y : V} {us : List Value} (r : Vals [x, y] us) : ∃ u w', us = [u, w'] ∧ RelV x u ∧ RelV y w' := by
  cases r with
  | cons r1 r2 =>
    cases r2 with
    | cons r3 r4 => cases r4; exact ⟨_, _, rfl, r1, r3⟩
theorem call_abs : CallR X (.builtin "abs") (fun xs H Q => ∃ i, xs = [.int i] ∧ Q (.int (if i < 0 then -i else i)) H) := by
  intro pins s σ H xs us Q I r h
  obtain ⟨i, rfl, q⟩ := h
  obtain ⟨u, rfl, t, rfl⟩ := vals1 r
  exact call_abs_int fun u tk => ⟨.int (if i < 0 then -i else i), H, I.tok _, ⟨_, rfl⟩, q⟩
theorem call_max2 (hc : X.calm = true) : CallR X (.builtin "max") (fun xs H Q => ∃ i j, xs = [.int i, .int j] ∧ Q (.int (if j > i then j else i)) H) := by
  intro pins s σ H xs us Q I r h
  obtain ⟨i, j, rfl, q⟩ := h
  obtain ⟨u, w', rfl, ⟨t, rfl⟩, ⟨t', rfl⟩⟩ := vals2 r
  refine max_two_ints (I.ok.hd hc) fun h' tk k => ⟨_, H, I.kept k, ?_, q⟩
  by_cases hj : j > i
  · rw [if_pos hj, if_pos hj]; exact ⟨_, rfl⟩
  · rw [if_neg hj, if_neg hj]; exact ⟨_, rfl⟩
theorem call_min2 (hc : X.calm = true) : CallR X (.builtin "min") (fun xs H Q => ∃ i j, xs = [.int i, .int j] ∧ Q (.int (if j < i then j else i)) H) := by
  intro pins s σ H xs us Q I r h
  obtain ⟨i, j, rfl, q⟩ := h
  obtain ⟨u, w', rfl, ⟨t, rfl⟩, ⟨t', rfl⟩⟩ := vals2 r
  refine min_two_ints (I.ok.hd hc) fun h' tk k => ⟨_, H, I.kept k, ?_, q⟩
  by_cases hj : j < i
  · rw [if_pos hj, if_pos hj]; exact ⟨_, rfl⟩
  · rw [if_neg hj, if_neg hj]; exact ⟨_, rfl⟩
theorem call_int1 : CallR X (.type "int") (fun xs H Q => (∃ i, xs = [.int i] ∧ Q (.int i) H) ∨ ∃ k, xs = [.bl k] ∧ Q (.int (if k then 1 else 0)) H) := by
  intro pins s σ H xs us Q I r h
  rcases h with ⟨i, rfl, q⟩ | ⟨k, rfl, q⟩
  · obtain ⟨u, rfl, t, rfl⟩ := vals1 r
    exact call_int_int ⟨.int i, H, I, ⟨_, rfl⟩, q⟩
  · obtain ⟨u, rfl, r1⟩ := vals1 r
    cases r1
    exact call_int_bool ⟨.int (if k then 1 else 0), H, I.tok _, ⟨_, rfl⟩, q⟩
theorem call_bool1 : CallR X (.type "bool") (fun xs H Q => (∃ i, xs = [.int i] ∧ Q (.bl (i != 0)) H) ∨ ∃ k, xs = [.bl k] ∧ Q (.bl k) H) := by
  intro pins s σ H xs us Q I r h
  rcases h with ⟨i, rfl, q⟩ | ⟨k, rfl, q⟩
  · obtain ⟨u, rfl, t, rfl⟩ := vals1 r
    exact call_bool_int ⟨.bl (i != 0), H, I, rfl, q⟩
  · obtain ⟨u, rfl, r1⟩ := vals1 r
    cases r1
    exact call_bool_bool ⟨.bl k, H, I, rfl, q⟩
theorem call_str_int : CallR X (.type "str") (fun xs H Q => ∃ i, xs = [.int i] ∧ i.natAbs.log2 < 1920 ∧ Q (.str (toString i)) H) := by
  intro pins s σ H xs us Q I r h
  obtain ⟨i, rfl, hz, q⟩ := h
  obtain ⟨u, rfl, t, rfl⟩ := vals1 r
  exact PySem.P.str_of_int hz ⟨.str _, H, I.tok _, ⟨_, rfl⟩, q⟩
theorem call_ord : CallR X (.builtin "ord") (fun xs H Q => ∃ x, xs = [.str x] ∧ x.length = 1 ∧ Q (.int (x.cps.getD 0 0 : Nat)) H) := by
  intro pins s σ H xs us Q I r h
  obtain ⟨x, rfl, hz, q⟩ := h
  obtain ⟨u, rfl, t, rfl⟩ := vals1 r
  exact ord_of_one hz ⟨.int _, H, I.tok _, ⟨_, rfl⟩, q⟩
theorem call_chr : CallR X (.builtin "chr") (fun xs H Q => ∃ i, xs = [.int i] ∧ 0 ≤ i ∧ i ≤ 1114111 ∧ Q (.str ⟨#[i.toNat]⟩) H) := by
  intro pins s σ H xs us Q I r h
  obtain ⟨i, rfl, h0, h1, q⟩ := h
  obtain ⟨u, rfl, t, rfl⟩ := vals1 r
  exact chr_of_range h0 h1 ⟨.str _, H, I.tok _, ⟨_, rfl⟩, q⟩
/-- len of a str, a bytes, a list, a tuple -/
def LenV (K : PySem.W.Frag) (x : V) (H : Hp) (n : Nat) : Prop :=
  match x with
  | .str y => y.length ≤ sizeLine ∧ n = y.length
  | .byt y => y.size ≤ sizeLine ∧ n = y.size
  | .ref p => (∃ xs, SqL K H p xs ∧ n = xs.length) ∨ ∃ xs, SqT K H p xs ∧ n = xs.length
  | _ => False
theorem call_len : CallR X (.builtin "len") (fun xs H Q => ∃ x n, xs = [x] ∧ LenV X.K x H n ∧ Q (.int n) H) := by
  intro pins s σ H xs us Q I r h
  obtain ⟨x, n, rfl, e, q⟩ := h
  obtain ⟨u, rfl, rx⟩ := vals1 r
  have hl := line63
  have hs : sizeLine = 16777216 := sizeLine_eq
  cases x with
  | str y =>
    obtain ⟨t, rfl⟩ := rx
    obtain ⟨hy, e'⟩ : y.length ≤ sizeLine ∧ n = y.length := e
    subst e'
    exact len_str (by omega) ⟨.int _, H, I.tok _, ⟨_, rfl⟩, q⟩
  | byt y =>
    obtain ⟨t, rfl⟩ := rx
    obtain ⟨hy, e'⟩ : y.size ≤ sizeLine ∧ n = y.size := e
    subst e'
    exact PySem.W.len_bytes (by omega) ⟨.int _, H, I.tok _, ⟨_, rfl⟩, q⟩
  | ref p =>
    cases rx
    have e' : (∃ xs, SqL X.K H p xs ∧ n = xs.length) ∨ ∃ xs, SqT X.K H p xs ∧ n = xs.length := e
    rcases e' with ⟨xs, hx, e'⟩ | ⟨xs, hx, e'⟩
    · subst e'
      obtain ⟨its, r', pl, hz⟩ := I.list hx
      have hlen := r'.length
      exact Calls.call_len_list pl.isList (by simp only [List.size_toArray]; omega) ⟨.int xs.length, H, I.tok _, ⟨_, by simp only [List.size_toArray]; rw [hlen]⟩, q⟩
    · subst e'
      obtain ⟨its, r', pl, hz⟩ := I.tuple hx
      have hlen := r'.length
      exact len_tuple pl (by simp only [List.size_toArray]; omega) ⟨.int xs.length, H, I.tok _, ⟨_, by simp only [List.size_toArray]; rw [hlen]⟩, q⟩
  | _ => exact (show False from e).elim
/-- divmod: a new tuple -/
theorem call_divmod : CallR X (.builtin "divmod") (fun xs H Q => ∃ i j, xs = [.int i, .int j] ∧ CDiv i j ∧ ∀ p, H p = none → Q (.ref p) (upd H p (.tup [.int (i / j), .int (i % j)]))) := by
  intro pins s σ H xs us Q I r h
  obtain ⟨i, j, rfl, ⟨h1, h2⟩, q⟩ := h
  obtain ⟨u, w', rfl, ⟨t, rfl⟩, ⟨t', rfl⟩⟩ := vals2 r
  refine divmod_int (by omega) ?_ (.inl (PyProof.noPylong_small (by omega)))
  rw [Int.fdiv_eq_ediv_of_nonneg i (by omega), Int.fmod_eq_emod_of_nonneg i (by omega)]
  have hn : H s.heap.objs.size = none := I.hok.fresh (Nat.le_refl _)
  refine ⟨.ref s.heap.objs.size, _, ?_, rfl, q _ hn⟩
  refine I.laid (fun b o e => Heap.get?_push_of_some _ e) (Nat.le_refl _) ⟨by simp only [List.length_cons, List.length_nil]; rw [sizeLine_eq]; decide, [.int (i / j) s.toks, .int (i % j) (s.toks + 1)], .cons ⟨_, rfl⟩ (.cons ⟨_, rfl⟩ .nil), ?_⟩
  exact ⟨_, Heap.get?_push_size s.heap rfl, rfl, 0, rfl⟩
end
end L2

namespace L2
open PySem PySem.Spec PyProof.Rows

/-! ### an instance, its attributes a map -/
structure ObjM (h : Heap) (x dx C : Addr) (mA : Str → Option Value) : Prop where
  obj : h.get? x = some (PySem.W.instObj C dx)
  ns : h.Ns1 dx mA
  ne : dx ≠ x

theorem lookIn_ns {h : Heap} {dx : Addr} {mA : Str → Option Value} (n : h.Ns1 dx mA) : ∃ od, h.get? dx = some od ∧ ∀ name, PySem.W.lookIn name od = some (mA name) := by
  obtain ⟨o, es, ep, ho, hd, hk, _, hm⟩ := n
  refine ⟨o, ho, fun name => ?_⟩
  have e := hm name
  unfold nsFind findBy at e
  rw [← Array.find?_toList] at e
  unfold PySem.W.lookIn
  rw [hd]
  dsimp only
  split
  · rename_i y q
    rw [q] at e
    exact congrArg some e
  · rename_i q
    rw [q] at e
    have a : es.toList.any (·.refKey) = false := by
      rw [List.any_eq_false]
      intro y hy
      obtain ⟨z, t, hkey⟩ := hk y (Array.mem_toList_iff.mp hy)
      simp [DictEntry.refKey, hkey]
    have a' : ¬ es.toList.any (·.refKey) = true := by rw [a]; exact Bool.false_ne_true
    rw [if_neg a']
    exact congrArg some e

theorem ObjM.look {h : Heap} {x dx C : Addr} {mA : Str → Option Value} (I : ObjM h x dx C mA) : ∃ od, PySem.W.InstAt h x (PySem.W.instObj C dx) C (some od) ∧ ∀ name, PySem.W.lookIn name od = some (mA name) :=
  let ⟨od, ho, hl⟩ := lookIn_ns I.ns
  ⟨od, ⟨I.obj, rfl, rfl, ho⟩, hl⟩

section
variable {prog : Program} {w : World} {A : Around} {E : Value → Shared → Prop} {s : Shared} {K : PySem.W.Frag} {x dx C f : Addr} {mA : Str → Option Value} {name : Str} {v : Value}

theorem get_map {expr : Bool} {Q : Value → Shared → Prop} (X : K.In s.heap) (I : ObjM s.heap x dx C mA) (hg : PySem.W.plainGet K C name = true) (hh : PySem.W.hasDictIn K C = true)
    (ha : PySem.W.findIn K (.ref C) name = some none) (hv : mA name = some v) (hv' : PySem.W.handedIn v = true) (h : Q v { s with toks := s.toks + 1 }) :
    wpAny (model prog w) A (getAttr (.ref x) name expr) Q E s := by
  obtain ⟨od, J, hl⟩ := I.look
  exact PySem.W.get_value X J (PySem.W.plainGet_of hg).1 (PySem.W.findObj_own hh ha rfl (by rw [hl, hv])) hv' h

theorem get_const {expr : Bool} {a : Value} {Q : Value → Shared → Prop} (X : K.In s.heap) (I : ObjM s.heap x dx C mA) (hg : PySem.W.plainGet K C name = true) (hh : PySem.W.hasDictIn K C = true)
    (ha : PySem.W.findIn K (.ref C) name = some (some a)) (hn : PySem.W.specialIn K a "__get__" = some none) (hc : PySem.W.copiedNames.contains name = false) (hv : mA name = none) (hv' : PySem.W.handedIn a = true)
    (h : Q a { s with toks := s.toks + 1 }) : wpAny (model prog w) A (getAttr (.ref x) name expr) Q E s := by
  obtain ⟨od, J, hl⟩ := I.look
  exact PySem.W.get_value X J (PySem.W.plainGet_of hg).1 (PySem.W.findObj_cls hh ha hn hv' hc (by rw [hl, hv])) hv' h

theorem get_meth {pl : Sem Bool} {Q : Value × List Value → Shared → Prop} (X : K.In s.heap) (I : ObjM s.heap x dx C mA) (hg : PySem.W.plainGet K C name = true)
    (hf : PySem.W.findIn K (.ref C) name = some (some (.ref f))) (ht : PySem.W.isFn K (.ref f) = true) (hv : mA name = none) (h : Q (.ref f, [.ref x]) s) :
    wpAny (model prog w) A (getMethod (.ref x) name pl) Q E s := by
  obtain ⟨od, J, hl⟩ := I.look
  exact PySem.W.method_fn X J (PySem.W.plainGet_of hg).1 (PySem.W.plainGet_of hg).2 hf (beq_iff_eq.mp ht) (by show (PySem.W.lookIn name od).map (·.isSome) = some false; rw [hl, hv]; rfl) h

theorem set_map {ns : List Str} {Q : Unit → Shared → Prop} (X : K.In s.heap) (I : ObjM s.heap x dx C mA)
    (hs : PySem.W.findIn K (.ref C) "__setattr__" = some (some (.builtin "object.__setattr__"))) (hp : PySem.W.plainOver K C = true) (ht : PySem.W.takerIn K C name = some none) (hh : PySem.W.hasDictIn K C = true)
    (hw : PySem.Within mA ns) (hsz : ns.length ≤ sizeLine)
    (h : ∀ h', ObjM h' x dx C (fun y => if y = name then some v else mA y) → Heap.SameBut dx s.heap h' → Q () { s with heap := h', toks := s.toks + 2 }) :
    wpAny (model prog w) A (setAttr (.ref x) name v) Q E s := by
  obtain ⟨od, J, hl⟩ := I.look
  refine PySem.W.set_plain X J hs (PySem.W.osa_open (s := { s with toks := s.toks + 1 }) (r := none) X J hp ht fun b => ?_)
  obtain ⟨cd, hc, hd'⟩ := PySem.W.any_some hh
  have hx : s.heap.get? x = some ⟨.ref C, some dx, .plain, #[]⟩ := I.obj
  refine wpAny_bind (wpAny_pure (wpAny_bind (wpAny_bind (wpAny_loadPart hx (wpAny_bind (PySem.W.Looks.here (s := { s with toks := s.toks + 1 }) (PySem.W.looks_clsIn X hc) ?_))))))
  rw [hd']
  refine wpAny_pure (a := some dx) (wpAny_bind (wpAny_pure (wpAny_bind ?_)))
  refine wpAny_nsSet1 (s := { s with toks := s.toks + 1 }) I.ns fun h' hn2 hs2 => ?_
  obtain ⟨oD, esD, epD, hoD, hdD, hcD⟩ := hn2.count (PySem.Within.cons name v hw)
  refine wpAny_bind (wpAny_lookBehind hoD (by rw [hdD]; exact pastItsLine_dict (Nat.le_trans hcD (by rw [List.length_cons]; omega))) ?_)
  exact wpAny_pure (h _ ⟨(hs2.2 _ (Ne.symm I.ne)).trans I.obj, hn2, I.ne⟩ hs2)

/-- C(..): the dict at the heap's end, the instance behind it; then its __init__ -/
theorem make_map {R : Result → Shared → Prop} {vs : List Value} {kw : List (Str × Value)} (X : K.In s.heap) (hm : PySem.W.makesIn K C = true)
    (hi : PySem.W.findIn K (.ref C) "__init__" = some (some (.ref f))) (hf : PySem.W.typeIn K (.ref f) = some (.type "function"))
    (h : codeAny (model prog w) (A.under (.builtin "type.__call__" ⟨.ref C :: vs, kw⟩)) (.call (.ref f) ⟨.ref (s.heap.objs.size + 1) :: vs, kw⟩) (PySem.W.InitBack (s.heap.objs.size + 1) R)
      { s with heap := (s.heap.push PySem.W.emptyDict).push (PySem.W.instObj C s.heap.objs.size) }) :
    codeAny (model prog w) A (.call (.ref C) ⟨vs, kw⟩) R s := by
  obtain ⟨hh, g, d, t, os⟩ := s
  exact PySem.W.make_core (PySem.W.makes_of X hm) (PySem.W.looks_findIn X hi) (fun self => PySem.W.bind_fn X self hf) (.inl rfl) h
/-- C() where there is no __init__ but object's -/
theorem make_map0 {R : Result → Shared → Prop} (X : K.In s.heap) (hm : PySem.W.makesIn K C = true)
    (hi : PySem.W.findIn K (.ref C) "__init__" = some (some (.builtin "object.__init__")))
    (hb : ∀ self, PySem.W.Looks (model prog w) s.heap (bindSpecial (.builtin "object.__init__") self) (.builtin "object.__init__", [self]))
    (h : codeAny (model prog w) (A.under (.builtin "type.__call__" ⟨[.ref C], []⟩)) (.call (.builtin "object.__init__") ⟨[.ref (s.heap.objs.size + 1)], []⟩) (PySem.W.InitBack (s.heap.objs.size + 1) R)
      { s with heap := (s.heap.push PySem.W.emptyDict).push (PySem.W.instObj C s.heap.objs.size) }) :
    codeAny (model prog w) A (.call (.ref C) ⟨[], []⟩) R s := by
  obtain ⟨hh, g, d, t, os⟩ := s
  exact PySem.W.make_core (PySem.W.makes_of X hm) (PySem.W.looks_findIn X hi) hb (.inr ⟨rfl, rfl⟩) h
end

/-! ### the attributes as a list of pairs -/
def putF (f : Str) (v : V) : List (Str × V) → List (Str × V)
  | [] => [(f, v)]
  | (g, x) :: r => if g = f then (g, v) :: r else (g, x) :: putF f v r
theorem lookup_putF (f g : Str) (v : V) : ∀ fs : List (Str × V), (putF f v fs).lookup g = if g = f then some v else fs.lookup g
  | [] => by
    show List.lookup g [(f, v)] = _
    by_cases h : g = f
    · have hb : (g == f) = true := beq_iff_eq.mpr h
      simp only [List.lookup, hb, if_pos h]
    · have hb : (g == f) = false := beq_eq_false_iff_ne.mpr h
      simp only [List.lookup, hb, if_neg h]
  | (k, x) :: r => by
    have ih := lookup_putF f g v r
    rw [show putF f v ((k, x) :: r) = (if k = f then (k, v) :: r else (k, x) :: putF f v r) from rfl]
    by_cases hk : k = f
    · rw [if_pos hk]
      by_cases h : g = k
      · have hb : (g == k) = true := beq_iff_eq.mpr h
        simp only [List.lookup, hb, if_pos (h.trans hk)]
      · have hb : (g == k) = false := beq_eq_false_iff_ne.mpr h
        simp only [List.lookup, hb, if_neg (fun e : g = f => h (e.trans hk.symm))]
    · rw [if_neg hk]
      by_cases h : g = k
      · have hb : (g == k) = true := beq_iff_eq.mpr h
        simp only [List.lookup, hb, if_neg (fun e : g = f => hk (h.symm.trans e))]
      · have hb : (g == k) = false := beq_eq_false_iff_ne.mpr h
        simp only [List.lookup, hb]
        exact ih
theorem keys_putF (f : Str) (v : V) : ∀ fs : List (Str × V), f ∈ (putF f v fs).map (·.1) ∧ ∀ g, g ∈ fs.map (·.1) → g ∈ (putF f v fs).map (·.1)
  | [] => ⟨by simp [putF], fun g h => by simp at h⟩
  | (k, x) :: r => by
    obtain ⟨i1, i2⟩ := keys_putF f v r
    rw [show putF f v ((k, x) :: r) = (if k = f then (k, v) :: r else (k, x) :: putF f v r) from rfl]
    by_cases hk : k = f
    · rw [if_pos hk]
      subst hk
      exact ⟨by simp, fun g h => by simpa using h⟩
    · rw [if_neg hk]
      refine ⟨?_, fun g h => ?_⟩
      · rw [List.map_cons]
        exact List.mem_cons_of_mem _ i1
      · rw [List.map_cons] at h ⊢
        rcases List.mem_cons.mp h with e | e
        · exact List.mem_cons.mpr (.inl e)
        · exact List.mem_cons_of_mem _ (i2 g e)
theorem length_putF (f : Str) (v : V) : ∀ fs : List (Str × V), (putF f v fs).length ≤ fs.length + 1
  | [] => by simp [putF]
  | (k, x) :: r => by
    have ih := length_putF f v r
    rw [show putF f v ((k, x) :: r) = (if k = f then (k, v) :: r else (k, x) :: putF f v r) from rfl]
    by_cases hk : k = f
    · rw [if_pos hk, List.length_cons, List.length_cons]; omega
    · rw [if_neg hk, List.length_cons, List.length_cons]; omega

theorem RelO.some_of {v : V} {o : Option Value} (r : RelO (some v) o) : ∃ u, o = some u ∧ RelV v u := by
  cases o with
  | none => exact (show False from r).elim
  | some u => exact ⟨u, rfl, r⟩
theorem RelO.none_of {o : Option Value} (r : RelO none o) : o = none := by
  cases o with
  | none => rfl
  | some u => exact (show False from r).elim
theorem handed_of {v : V} {u : Value} (r : RelV v u) : PySem.W.handedIn u = true := by
  cases v with
  | non => cases (show u = Value.none from r); rfl
  | bl b => cases (show u = Value.bool b from r); rfl
  | int i => obtain ⟨t, e⟩ := (show ∃ t, u = Value.int i t from r); cases e; rfl
  | str x => obtain ⟨t, e⟩ := (show ∃ t, u = Value.str x t from r); cases e; rfl
  | byt b => obtain ⟨t, e⟩ := (show ∃ t, u = Value.bytes b t from r); cases e; rfl
  | flt b => obtain ⟨t, e⟩ := (show ∃ t, u = Value.float b t from r); cases e; rfl
  | ref a => cases (show u = Value.ref a from r); rfl
  | ty n => cases (show u = Value.type n from r); rfl

section
variable {P : Program} {w : World} {H H' : Hp} {h h' : Heap} {a C dx : Addr} {fs fs' : List (Str × V)}
theorem ins_get (hok : HOk P w H h) (e : H a = some (.ins C dx fs)) : ∃ mA, ObjM h a dx C mA ∧ (∀ f, RelO (fs.lookup f) (mA f)) ∧ PySem.Within mA (fs.map (·.1)) ∧ fs.length ≤ 1000 ∧ H dx = some (.own a) := by
  obtain ⟨d, z, ne, ob, mA, n, r, q⟩ := (show ObjOk P w H h a (.ins C dx fs) from hok a _ e)
  exact ⟨mA, ⟨ob, n, ne⟩, r, q, z, d⟩
end

/-! ### what of the text a class must have -/
structure Cls (K : PySem.W.Frag) (C : Addr) : Prop where
  pg : PySem.W.plainGet K C Str.empty = true
  hd : PySem.W.hasDictIn K C = true
  po : PySem.W.plainOver K C = true
  sa : PySem.W.findIn K (.ref C) "__setattr__" = some (some (.builtin "object.__setattr__"))
theorem Cls.get {K : PySem.W.Frag} {C : Addr} (c : Cls K C) (f : Str) : PySem.W.plainGet K C f = true := c.pg
/-- no class of it has the name -/
def NoAttr (K : PySem.W.Frag) (C : Addr) (f : Str) : Prop := PySem.W.findIn K (.ref C) f = some none
theorem NoAttr.taker {K : PySem.W.Frag} {C : Addr} {f : Str} (n : NoAttr K C f) : PySem.W.takerIn K C f = some none := by
  unfold PySem.W.takerIn
  rw [show PySem.W.findIn K (.ref C) f = some none from n]
  rfl
/-- a constant of the class -/
structure Con (K : PySem.W.Frag) (C : Addr) (f : Str) (v : V) (u : Value) : Prop where
  at_ : PySem.W.findIn K (.ref C) f = some (some u)
  rel : RelV v u
  get : PySem.W.specialIn K u "__get__" = some none
  cp : PySem.W.copiedNames.contains f = false
/-- a method: a plain def of the class or of one above it -/
structure Meth (K : PySem.W.Frag) (C : Addr) (m : Str) (f : Addr) : Prop where
  at_ : PySem.W.findIn K (.ref C) m = some (some (.ref f))
  fn : PySem.W.isFn K (.ref f) = true
  kp : PySem.W.keepIn K (.ref f) = true

section
variable {X : Cx} {pins : List (Addr × Obj)} {σ : St} {H : Hp} {s : Shared} {a C dx : Addr} {fs : List (Str × V)} {f : Str} {v : V} {A : Around} {E : Value → Shared → Prop}

theorem getattr_ok {b : Bool} {Q : Value → Shared → Prop} (I : Inv X pins σ H s) (e : H a = some (.ins C dx fs)) (c : Cls X.K C) (n : NoAttr X.K C f) (l : fs.lookup f = some v)
    (h : ∀ u s', Inv X pins σ H s' → RelV v u → Q u s') : wpAny (model X.prog X.w) A (getAttr (.ref a) f b) Q E s := by
  obtain ⟨mA, O, r, _, _, _⟩ := ins_get I.hok e
  obtain ⟨u, hu, ru⟩ := RelO.some_of (v := v) (o := mA f) (by rw [← l]; exact r f)
  exact get_map I.kIn O (c.get f) c.hd n hu (handed_of ru) (h u _ (I.tok _) ru)

theorem getcon_ok {b : Bool} {u : Value} {Q : Value → Shared → Prop} (I : Inv X pins σ H s) (e : H a = some (.ins C dx fs)) (c : Cls X.K C) (k : Con X.K C f v u) (l : fs.lookup f = none)
    (h : ∀ s', Inv X pins σ H s' → Q u s') : wpAny (model X.prog X.w) A (getAttr (.ref a) f b) Q E s := by
  obtain ⟨mA, O, r, _, _, _⟩ := ins_get I.hok e
  have hn : mA f = none := RelO.none_of (by rw [← l]; exact r f)
  exact get_const I.kIn O (c.get f) c.hd k.at_ k.get k.cp hn (handed_of k.rel) (h _ (I.tok _))

theorem getmeth_ok {m : Str} {g : Addr} {pl : Sem Bool} {Q : Value × List Value → Shared → Prop} (I : Inv X pins σ H s) (e : H a = some (.ins C dx fs)) (c : Cls X.K C) (k : Meth X.K C m g) (l : fs.lookup m = none)
    (h : Q (.ref g, [.ref a]) s) : wpAny (model X.prog X.w) A (getMethod (.ref a) m pl) Q E s := by
  obtain ⟨mA, O, r, _, _, _⟩ := ins_get I.hok e
  have hn : mA m = none := RelO.none_of (by rw [← l]; exact r m)
  exact get_meth I.kIn O (c.get m) k.at_ k.fn hn h

theorem setattr_ok {y : V} {u : Value} {Q : Unit → Shared → Prop} (I : Inv X pins σ H s) (e : H a = some (.ins C dx fs)) (c : Cls X.K C) (n : NoAttr X.K C f) (hl : fs.length < 1000) (ry : RelV y u)
    (h : ∀ s', Inv X pins σ (upd H a (.ins C dx (putF f y fs))) s' → Q () s') : wpAny (model X.prog X.w) A (setAttr (.ref a) f u) Q E s := by
  obtain ⟨mA, O, r, wi, _, ho⟩ := ins_get I.hok e
  have hz : (fs.map (·.1)).length ≤ sizeLine := by rw [List.length_map, sizeLine_eq]; omega
  refine set_map I.kIn O c.sa c.po n.taker c.hd wi hz fun h' O' sb => h _ ?_
  have hd : ∃ o, h'.get? dx = some o := let ⟨o, _, _, e', _⟩ := O'.ns; ⟨o, e'⟩
  refine I.write (x := a) (e := dx) (by rw [e]; exact True.intro) (.inr ho) (fun b q hb z => (sb.2 b hb).trans z) hd ?_
  refine ⟨by rw [upd_ne O.ne]; exact ho, ?_, O.ne, O'.obj, _, O'.ns, fun g => ?_, fun g hg => ?_⟩
  · have := length_putF f y fs; omega
  · show RelO ((putF f y fs).lookup g) (if g = f then some u else mA g)
    rw [lookup_putF]
    by_cases q : g = f
    · rw [if_pos q, if_pos q]; exact ry
    · rw [if_neg q, if_neg q]; exact r g
  · by_cases q : g = f
    · rw [q]; exact (keys_putF f y fs).1
    · refine (keys_putF f y fs).2 g (wi g fun z => hg ?_)
      show (if g = f then some u else mA g) = none
      rw [if_neg q]; exact z

/-- a new instance, tracked, without attributes -/
theorem Inv.made (I : Inv X pins σ H s) : Inv X pins σ (upd (upd H s.heap.objs.size (.own (s.heap.objs.size + 1))) (s.heap.objs.size + 1) (.ins C s.heap.objs.size []))
    { s with heap := (s.heap.push PySem.W.emptyDict).push (PySem.W.instObj C s.heap.objs.size) } := by
  have e1 : (s.heap.push PySem.W.emptyDict).get? s.heap.objs.size = some PySem.W.emptyDict := Heap.get?_push_size s.heap rfl
  have e2 : ((s.heap.push PySem.W.emptyDict).push (PySem.W.instObj C s.heap.objs.size)).get? (s.heap.objs.size + 1) = some (PySem.W.instObj C s.heap.objs.size) := by
    have := Heap.get?_push_size (s.heap.push PySem.W.emptyDict) (o := PySem.W.instObj C s.heap.objs.size) rfl
    rwa [Heap.size_push] at this
  have e3 : (s.heap.push PySem.W.emptyDict).Ns s.heap.objs.size (fun _ => none) := ⟨PySem.W.emptyDict, #[], _, e1, rfl, (fun e he => absurd he (by simp)), fun _ => rfl⟩
  have I1 := I.laid (a := s.heap.objs.size) (o := .own (s.heap.objs.size + 1)) (h' := s.heap.push PySem.W.emptyDict) (t' := s.toks) (fun b u q => Heap.get?_push_of_some _ q) (Nat.le_refl _) ⟨_, e1⟩
  refine I1.laid (a := s.heap.objs.size + 1) (o := .ins C s.heap.objs.size []) (t' := s.toks) (fun b u q => Heap.get?_push_of_some _ q) (Nat.le_of_eq (Heap.size_push _ _)) ?_
  have ne : s.heap.objs.size ≠ s.heap.objs.size + 1 := Nat.ne_of_lt (Nat.lt_succ_self _)
  refine ⟨by rw [upd_ne ne, upd_same], Nat.zero_le _, ne, e2, fun _ => none, (Heap.Ns1.of_empty e3).at fun o q => Heap.get?_push_of_some _ q, fun _ => True.intro, fun y hy => absurd rfl hy⟩

/-- e.f where nothing but the object is asked: through attributeBase (super) and the last hold -/
theorem attr_of {prog : Program} {w : World} {env : Env} {e : Expr} {f : Str} {pos : Pos} {s : Shared} {Q : Value → Shared → Prop} (hb : attributeBase e f env (eval e env) = eval e env)
    (h : wpAny (model prog w) A (eval e env) (fun o s₁ => wpAny (model prog w) A (getAttr o f true) Q E s₁) E s) : wpAny (model prog w) A (eval (.Attribute e f pos) env) Q E s :=
  Attribute_any_ h (by rw [arm_eval_Attribute, hb])
end

/-! ### readings and rules -/
/-- e.f, an attribute of the instance -/
def tFld (K : PySem.W.Frag) (ta : TE) (f : Str) : TE := fun σ H Q => ta σ H fun x H1 => ∃ a C dx fs v, x = .ref a ∧ H1 a = some (.ins C dx fs) ∧ Cls K C ∧ NoAttr K C f ∧ fs.lookup f = some v ∧ Q v H1
/-- e.f, a constant of the class -/
def tCon (K : PySem.W.Frag) (ta : TE) (f : Str) : TE := fun σ H Q => ta σ H fun x H1 => ∃ a C dx fs v u, x = .ref a ∧ H1 a = some (.ins C dx fs) ∧ Cls K C ∧ Con K C f v u ∧ fs.lookup f = none ∧ Q v H1
/-- e.f = value -/
def sFld (K : PySem.W.Frag) (ta tv : TE) (f : Str) : TS := fun D σ H => tv σ H fun y H1 => ta σ H1 fun x H2 => ∃ a C dx fs, x = .ref a ∧ H2 a = some (.ins C dx fs) ∧ Cls K C ∧ NoAttr K C f ∧ fs.length < 1000 ∧
  D.nx σ (upd H2 a (.ins C dx (putF f y fs)))
/-- an augmented operator on two values -/
def InOp (X : Cx) (op : Operator) (rd : V → V → Hp → VK → Prop) : Prop :=
  ∀ (pins : List (Addr × Obj)) (s : Shared) (σ : St) (H : Hp) (x y : V) (u v : Value) (Q : VK), Inv X pins σ H s → RelV x u → RelV y v → rd x y H Q → wpAny (model X.prog X.w) X.A (inplaceOp op u v) (EP X pins σ Q) X.xe s
/-- e.f op= value -/
def sFldAug (K : PySem.W.Frag) (ta tv : TE) (rd : V → V → Hp → VK → Prop) (f : Str) : TS := fun D σ H => ta σ H fun x H1 => ∃ a C dx fs v, x = .ref a ∧ H1 a = some (.ins C dx fs) ∧ Cls K C ∧ NoAttr K C f ∧ fs.lookup f = some v ∧
  tv σ H1 fun y H2 => rd v y H2 fun z H3 => ∃ dx' fs', H3 a = some (.ins C dx' fs') ∧ fs'.length < 1000 ∧ D.nx σ (upd H3 a (.ins C dx' (putF f z fs')))

section
variable {X : Cx} {o e value : Expr} {f : Str} {pos pos' tpos : Pos} {ta tv : TE}
theorem pe_fld (he : PE X e ta) (hb : attributeBase e f X.env (eval e X.env) = eval e X.env) : PE X (.Attribute e f pos) (tFld X.K ta f) := by
  intro pins s σ H Q I h
  refine attr_of hb (thn (he pins s σ H _ I h) fun u s1 ⟨x, H1, I1, rx, a, C, dx, fs, v, ex, ea, c, n, l, q⟩ => ?_)
  subst ex
  obtain rfl : u = Value.ref a := rx
  exact getattr_ok I1 ea c n l fun u' s2 I2 ru => ⟨v, H1, I2, ru, q⟩
theorem pe_con (he : PE X e ta) (hb : attributeBase e f X.env (eval e X.env) = eval e X.env) : PE X (.Attribute e f pos) (tCon X.K ta f) := by
  intro pins s σ H Q I h
  refine attr_of hb (thn (he pins s σ H _ I h) fun u s1 ⟨x, H1, I1, rx, a, C, dx, fs, v, u0, ex, ea, c, k, l, q⟩ => ?_)
  subst ex
  obtain rfl : u = Value.ref a := rx
  exact getcon_ok I1 ea c k l fun s2 I2 => ⟨v, H1, I2, k.rel, q⟩
theorem ps_fld (ha : PE X o ta) (hv : PE X value tv) (hs : swapsWith value (some (.Attribute o f pos')) pos.line X.env = pure false) : PS X (.Assign [.Attribute o f pos'] value pos) (sFld X.K ta tv f) := by
  intro pins s σ H D I h
  refine plainObj_wpAny_Assign_Attribute (thn (hv pins s σ H _ I h) fun u s1 ⟨y, H1, I1, ry, q⟩ => thn (ha pins s1 σ H1 _ I1 q) fun ov s2 ⟨x, H2, I2, rx, a, C, dx, fs, ex, ea, c, n, l, q2⟩ => ?_) hs
  subst ex
  obtain rfl : ov = Value.ref a := rx
  exact setattr_ok I2 ea c n l ry fun s3 I3 => ⟨σ, _, I3, q2⟩
theorem ps_fldaug {op : Operator} {rd : V → V → Hp → VK → Prop} (ha : PE X o ta) (hv : PE X value tv) (hop : InOp X op rd) : PS X (.AugAssign (.Attribute o f tpos) op value pos) (sFldAug X.K ta tv rd f) := by
  intro pins s σ H D I h
  refine wpAny_AugAssign_AttributeAny (thn (ha pins s σ H _ I h) fun ov s1 ⟨x, H1, I1, rx, a, C, dx, fs, v, ex, ea, c, n, l, q⟩ => ?_)
  subst ex
  obtain rfl : ov = Value.ref a := rx
  refine getattr_ok I1 ea c n l fun u s2 I2 ru => thn (hv pins s2 σ H1 _ I2 q) fun w3 s3 ⟨y, H2, I3, ry, q3⟩ => thn (hop pins s3 σ H2 v y u w3 _ I3 ru ry q3) fun w4 s4 ⟨z, H3, I4, rz, dx', fs', ea', l', q4⟩ => ?_
  exact setattr_ok I4 ea' c n l' rz fun s5 I5 => ⟨σ, _, I5, q4⟩
def rAdd : V → V → Hp → VK → Prop := fun x y H Q => ∃ i j, x = .int i ∧ y = .int j ∧ Q (.int (i + j)) H
def rSub : V → V → Hp → VK → Prop := fun x y H Q => ∃ i j, x = .int i ∧ y = .int j ∧ Q (.int (i - j)) H
theorem in_add : InOp X .Add rAdd := by
  rintro pins s σ H x y u v Q I rx ry ⟨i, j, rfl, rfl, q⟩
  obtain ⟨t, rfl⟩ := (show ∃ t, u = Value.int i t from rx)
  obtain ⟨t', rfl⟩ := (show ∃ t', v = Value.int j t' from ry)
  exact PyProof.Rows.iadd_int ⟨.int (i + j), H, I.tok _, ⟨_, rfl⟩, q⟩
theorem in_sub : InOp X .Sub rSub := by
  rintro pins s σ H x y u v Q I rx ry ⟨i, j, rfl, rfl, q⟩
  obtain ⟨t, rfl⟩ := (show ∃ t, u = Value.int i t from rx)
  obtain ⟨t', rfl⟩ := (show ∃ t', v = Value.int j t' from ry)
  exact PyProof.Rows.isub_int ⟨.int (i - j), H, I.tok _, ⟨_, rfl⟩, q⟩

/-- what is between an instance and its method: the tree of a method call -/
theorem methcall_of {pl : Sem Bool} {m : Str} {apos : Pos} {args : List Expr} {pins : List (Addr × Obj)} {s : Shared} {σ : St} {H : Hp} {Q : Value → Shared → Prop} {te : TE} (he : PE X e te) (I : Inv X pins σ H s)
    (h : te σ H fun x H1 => ∃ a C dx fs g, x = .ref a ∧ H1 a = some (.ins C dx fs) ∧ Cls X.K C ∧ Meth X.K C m g ∧ fs.lookup m = none ∧
      ∀ s1, Inv X pins σ H1 s1 → wpAny (model X.prog X.w) X.A (callWith pos (.ref g) [.ref a] (backTo pos (starEach args X.env)) (backToKw pos (keywordEach [] X.env))) Q X.xe s1)
    (ht : eval (.Call (.Attribute e m apos) args [] pos) X.env = (do
      let ov ← eval e X.env
      standAt apos.atName
      let (f, first) ← holding [ov] (getMethod ov m pl)
      callWith pos f first (backTo pos (starEach args X.env)) (backToKw pos (keywordEach [] X.env)))) :
    wpAny (model X.prog X.w) X.A (eval (.Call (.Attribute e m apos) args [] pos) X.env) Q X.xe s := by
  refine PySem.W.methodCall_KW (pl := pl) (thn (he pins s σ H _ I h) fun u s1 ⟨x, H1, I1, rx, a, C, dx, fs, g, ex, ea, c, k, l, q⟩ => ?_) ht
  subst ex
  obtain rfl : u = Value.ref a := rx
  exact getmeth_ok I1 ea c k l (q s1 I1)
end

/-! ### isinstance -/
section
variable {X : Cx} {pins : List (Addr × Obj)} {σ : St} {H : Hp} {s : Shared} {A : Around} {E : Value → Shared → Prop} {Q : Value → Shared → Prop} {c : Value} {b : Bool}
/-- the type of a value, as the fragment's deciders take it; for an instance its class -/
inductive TyOf (K : PySem.W.Frag) (H : Hp) : V → Value → Prop where
  | non : TyOf K H .non (.type "NoneType")
  | bl (x : Bool) : TyOf K H (.bl x) (.type "bool")
  | int (i : Int) : TyOf K H (.int i) (.type "int")
  | str (x : Str) : TyOf K H (.str x) (.type "str")
  | flt (x : UInt64) : TyOf K H (.flt x) (.type "float")
  | lst {a : Addr} {xs : List V} (e : H a = some (.lst xs)) : TyOf K H (.ref a) (.type "list")
  | frz {a : Addr} {o : Obj} {xs : List V} (e : H a = some (.frz o (.lst xs))) : TyOf K H (.ref a) (.type "list")
  | tup {a : Addr} {xs : List V} (e : H a = some (.tup xs)) : TyOf K H (.ref a) (.type "tuple")
  | dK {a : Addr} {kvs : List (Key × V)} (e : H a = some (.dK kvs)) : TyOf K H (.ref a) (.type "dict")
  | dT {a : Addr} {kvs : List (List Key × V)} (e : H a = some (.dT kvs)) : TyOf K H (.ref a) (.type "dict")
  | ins {a C dx : Addr} {fs : List (Str × V)} (e : H a = some (.ins C dx fs)) (cl : Cls K C) (ha : PySem.W.findIn K (.ref C) "__class__" = some (some (.builtin "object.__class__")))
      (hn : PySem.W.specialIn K (.builtin "object.__class__") "__get__" = some (some (.builtin "getset_descriptor.__get__"))) (htk : PySem.W.takesIn K (.builtin "object.__class__") = some true)
      (hm : PySem.W.mroIn K C (.type "object") = some true) : TyOf K H (.ref a) (.ref C)
/-- isinstance(x, c) for one class c, a built-in or an own one: kitOne's answer -/
theorem isinst_ok {x : V} {u t : Value} (I : Inv X pins σ H s) (rx : RelV x u) (ty : TyOf X.K H x t) (e : PySem.W.kitOne X.K t c = some b) (h : ∀ tk, Q (.bool b) { s with toks := tk }) :
    wpAny (model X.prog X.w) A (call (.builtin "isinstance") [u, c]) Q E s := by
  cases ty with
  | non => cases (show u = Value.none from rx); exact PySem.W.kia_one PySem.W.kitx_none I.kIn True.intro e (fun z => nomatch z) h
  | bl y => cases (show u = Value.bool y from rx); exact PySem.W.kia_one PySem.W.kitx_bool I.kIn True.intro e (fun z => nomatch z) h
  | int i => obtain ⟨t, q⟩ := (show ∃ t, u = Value.int i t from rx); cases q; exact PySem.W.kia_one PySem.W.kitx_int I.kIn True.intro e (fun z => nomatch z) h
  | str y => obtain ⟨t, q⟩ := (show ∃ t, u = Value.str y t from rx); cases q; exact PySem.W.kia_one PySem.W.kitx_str I.kIn True.intro e (fun z => nomatch z) h
  | flt y => obtain ⟨t, q⟩ := (show ∃ t, u = Value.float y t from rx); cases q; exact PySem.W.kia_one PySem.W.kitx_float I.kIn True.intro e (fun z => nomatch z) h
  | @lst a xs ea =>
    cases (show u = Value.ref a from rx)
    obtain ⟨_, _, n, _, h1⟩ := (show ObjOk X.prog X.w H s.heap a (.lst xs) from I.hok a _ ea)
    exact PySem.W.kia_one PySem.W.kitx_list I.kIn ⟨_, h1, rfl⟩ e (fun z => nomatch z) h
  | @frz a ob xs ea =>
    cases (show u = Value.ref a from rx)
    obtain ⟨_, _, _, n, _, h1⟩ := (show ObjOk X.prog X.w H s.heap a (.frz ob (.lst xs)) from I.hok a _ ea)
    exact PySem.W.kia_one PySem.W.kitx_list I.kIn ⟨_, h1, rfl⟩ e (fun z => nomatch z) h
  | @tup a xs ea =>
    cases (show u = Value.ref a from rx)
    obtain ⟨_, _, _, p⟩ := (show ObjOk X.prog X.w H s.heap a (.tup xs) from I.hok a _ ea)
    obtain ⟨o, h1, h2, _⟩ := p
    exact PySem.W.kia_one PySem.W.kitx_tuple I.kIn ⟨o, h1, h2⟩ e (fun z => nomatch z) h
  | @dK a kvs ea =>
    cases (show u = Value.ref a from rx)
    obtain ⟨_, _, vs, _, p⟩ := (show ObjOk X.prog X.w H s.heap a (.dK kvs) from I.hok a _ ea)
    obtain ⟨o, es, ep, h1, h2, _⟩ := p
    exact PySem.W.kia_one PySem.W.kitx_dict I.kIn ⟨o, h1, h2.1⟩ e (fun z => nomatch z) h
  | @dT a kvs ea =>
    cases (show u = Value.ref a from rx)
    obtain ⟨_, _, xs, _, o, es, ep, h1, h2, _⟩ := (show ObjOk X.prog X.w H s.heap a (.dT kvs) from I.hok a _ ea)
    exact PySem.W.kia_one PySem.W.kitx_dict I.kIn ⟨o, h1, h2.1⟩ e (fun z => nomatch z) h
  | @ins a C dx fs ea cl ha hn htk hm =>
    cases (show u = Value.ref a from rx)
    obtain ⟨mA, O, _⟩ := ins_get I.hok ea
    obtain ⟨od, J, _⟩ := O.look
    exact PySem.W.kia_one (PySem.W.kitx_own (cl.get _) cl.hd ha hn htk hm) I.kIn J e (fun z => nomatch z) h
end
end L2

namespace L2
open PySem PySem.Spec PyProof.Rows

/-! ### room -/
structure Room (k : Nat) (A : Around) : Prop where
  hd : A.handled = none
  dp : A.depth + 3 * k + 5 < recursionLimit
  un : A.units + 16 * k + 200 < cLine
theorem Room.mono {j k : Nat} {A : Around} (r : Room k A) (h : j ≤ k) : Room j A := ⟨r.hd, by have := r.dp; omega, by have := r.un; omega⟩
theorem Room.deeper {k : Nat} {A : Around} (r : Room (k + 1) A) (env : Env) : Room k (A.deeper env) :=
  ⟨r.hd, by have := r.dp; show A.depth + 1 + 3 * k + 5 < _; omega, by have := r.un; show A.units + 3 + 16 * k + 200 < _; omega⟩
theorem Room.in1 {k : Nat} {A : Around} (r : Room (k + 1) A) : Room k A.in1 :=
  ⟨r.hd, by have := r.dp; show A.depth + 3 * k + 5 < _; omega, by have := r.un; show A.units + 1 + 16 * k + 200 < _; omega⟩
theorem make_depth {A : Around} {C : Addr} {us : List Value} {kw : List (Str × Value)} : (A.under (.builtin "type.__call__" ⟨.ref C :: us, kw⟩)).depth = A.depth + 1 := by
  first | rfl | simp [Around.under, Code.weight, Code.isCreation, Code.isGuard, Code.isCaller, Code.frames, Code.isFrame, guardIds]
theorem make_units {A : Around} {C : Addr} {us : List Value} {kw : List (Str × Value)} : (A.under (.builtin "type.__call__" ⟨.ref C :: us, kw⟩)).units = A.units + 1 := by
  first | rfl | simp [Around.under, Code.cUnits, Code.frames, Code.isFrame]
theorem Room.make {k : Nat} {A : Around} (r : Room (k + 1) A) (C : Addr) (us : List Value) (kw : List (Str × Value)) : Room k (A.under (.builtin "type.__call__" ⟨.ref C :: us, kw⟩)) :=
  ⟨r.hd, by have := r.dp; rw [make_depth]; omega, by have := r.un; rw [make_units]; omega⟩
theorem Room.depth {k : Nat} {A : Around} (r : Room k A) : A.depth < recursionLimit := by have := r.dp; omega
theorem Room.units {k : Nat} {A : Around} (r : Room k A) : A.units + 64 < cLine := by have := r.un; omega
theorem Room.units0 {k : Nat} {A : Around} (r : Room k A) : A.units < cLine := by have := r.un; omega

/-! ### argument lists and displays -/
def tNil : TA := fun _ H Q => Q [] H
def tCons (ta : TE) (tr : TA) : TA := fun σ H Q => ta σ H fun x H1 => tr σ H1 fun xs H2 => Q (x :: xs) H2
section
variable {X : Cx} {e : Expr} {es : List Expr} {te : TE} {t : TA} {pos : Pos}
theorem pa_nil : PA X [] tNil := fun _ _ _ _ H Q I h => Calls.spliced_nil ⟨[], H, I, .nil, h⟩
theorem pa_cons (ha : PE X e te) (hr : PA X es t) (hs : starEach (e :: es) X.env = (false, eval e X.env) :: starEach es X.env := by rfl) : PA X (e :: es) (tCons te t) := by
  intro pos pins s σ H Q I h
  rw [hs]
  show wpAny _ _ (spliced ((false, eval e X.env) :: backTo pos (starEach es X.env))) _ _ s
  refine Calls.spliced_cons (thn (ha pins s σ H _ I h) fun u s1 ⟨x, H1, I1, r1, q1⟩ => ?_)
  exact thn (hr pos pins s1 σ H1 _ I1 q1) fun us s2 ⟨xs, H2, I2, r2, q2⟩ => ⟨x :: xs, H2, I2, .cons r1 r2, q2⟩

/-- a tuple, a list of written items -/
def tTup (t : TA) : TE := fun σ H Q => t σ H fun xs H1 => xs.length ≤ sizeLine ∧ ∀ p, H1 p = none → Q (.ref p) (upd H1 p (.tup xs))
def tLst (t : TA) : TE := fun σ H Q => t σ H fun xs H1 => xs.length ≤ sizeLine ∧ ∀ p, H1 p = none → Q (.ref p) (upd H1 p (.lst xs))
theorem pe_tup {x1} (h : PA X es t) : PE X (.Tuple es x1 pos) (tTup t) := by
  intro pins s σ H Q I hq
  refine wpAny_Tuple_spliced (thn (h pos pins s σ H _ I hq) fun us s1 ⟨xs, H1, I1, r, z, q⟩ => ⟨by rw [← r.length]; exact z, ?_⟩)
  have hf : H1 s1.heap.objs.size = none := I1.hok.fresh (Nat.le_refl _)
  refine ⟨.ref s1.heap.objs.size, upd H1 s1.heap.objs.size (.tup xs), I1.laid (t' := s1.toks) (fun b u e => Heap.get?_push_of_some _ e) (Nat.le_refl _) ?_, rfl, q _ hf⟩
  exact ⟨z, us, r, ⟨_, Heap.get?_push_size _ rfl, rfl, _, rfl⟩⟩
theorem pe_lst (h : PA X es t) : PE X (.List es pos) (tLst t) := by
  intro pins s σ H Q I hq
  refine wpAny_List_spliced (thn (h pos pins s σ H _ I hq) fun us s1 ⟨xs, H1, I1, r, z, q⟩ => ⟨by rw [← r.length]; exact z, ?_⟩)
  have hf : H1 s1.heap.objs.size = none := I1.hok.fresh (Nat.le_refl _)
  refine ⟨.ref s1.heap.objs.size, upd H1 s1.heap.objs.size (.lst xs), I1.laid (t' := s1.toks) (fun b u e => Heap.get?_push_of_some _ e) (Nat.le_refl _) ?_, rfl, q _ hf⟩
  exact ⟨z, us, 0, r, Heap.get?_push_size _ rfl⟩
end

/-! ### what a def promises -/
/-- a def's promise: the bound arguments in the parameters' order, the heap, the wanted end, the wanted exception -/
abbrev Sp := List V → Hp → VK → XK → Prop
/-- how an exception lies behind a call (file 08 gives it): the callers' frames, abstract heap and state ahead of the call, the wish, the exception, the state -/
abbrev CXT := List Env → Hp → Shared → XK → Value → Shared → Prop

/-- the state at a call -/
structure Env0 (P : Program) (w : World) (K : PySem.W.Frag) (mg : Str → Option Value) (base : Heap) (A : Around) (outer : List Env) (s : Shared) (H : Hp) : Prop where
  frames : A.frames = some outer
  mod : Mod K mg base
  bs : ∀ b o, base.get? b = some o → s.heap.get? b = some o ∧ H b = none
  bsz : base.objs.size ≤ s.heap.objs.size
  funs : s.heap.FunFrames base outer
  frf : ∀ b ∈ frs outer, H b = none
  hok : HOk P w H s.heap
  bare : AllBare s.gens
/-- a call's end -/
def CE (outer : List Env) (P : Program) (w : World) (H : Hp) (s : Shared) (Q : VK) (u : Value) (s' : Shared) : Prop :=
  ∃ v H', s'.os = s.os ∧ AllBare s'.gens ∧ Un (frs outer) [] H H' s.heap s'.heap ∧ HOk P w H' s'.heap ∧ RelV v u ∧ Q v H'
def CR (CX : CXT) (outer : List Env) (P : Program) (w : World) (H : Hp) (s : Shared) (Q : VK) (E : XK) (r : Result) (s' : Shared) : Prop :=
  match r with
  | .ok (.ret u) => CE outer P w H s Q u s'
  | .ok _ => False
  | .error e => CX outer H s E e s'
structure FnOk (P : Program) (w : World) (K : PySem.W.Frag) (mg : Str → Option Value) (base : Heap) (CX : CXT) (k : Nat) (f : Addr) (fd : FuncData) (ps : List Str) (sp : Sp) : Prop where
  len : ∀ vs H Q E, sp vs H Q E → vs.length = ps.length
  run : ∀ (A : Around) (outer : List Env) (s : Shared) (H : Hp) (args : Args) (us : List Value) (vs : List V) (Q : VK) (E : XK), Room k A → Env0 P w K mg base A outer s H → BindsTo s fd args (ps.zip us) → Vals vs us → sp vs H Q E →
    codeAny (model P w) A (.call (.ref f) args) (CR CX outer P w H s Q E) s
theorem FnOk.mono {P : Program} {w : World} {K : PySem.W.Frag} {mg : Str → Option Value} {base : Heap} {CX : CXT} {j k : Nat} {f : Addr} {fd : FuncData} {ps : List Str} {sp : Sp} (F : FnOk P w K mg base CX j f fd ps sp) (h : j ≤ k) :
    FnOk P w K mg base CX k f fd ps sp := ⟨F.len, fun A outer s H args us vs Q E hr => F.run A outer s H args us vs Q E (hr.mono h)⟩
/-- a weaker promise -/
theorem FnOk.imp {P : Program} {w : World} {K : PySem.W.Frag} {mg : Str → Option Value} {base : Heap} {CX : CXT} {k : Nat} {f : Addr} {fd : FuncData} {ps : List Str} {sp sp' : Sp} (F : FnOk P w K mg base CX k f fd ps sp)
    (h : ∀ vs H Q E, sp' vs H Q E → sp vs H Q E) : FnOk P w K mg base CX k f fd ps sp' :=
  ⟨fun vs H Q E q => F.len vs H Q E (h _ _ _ _ q), fun A outer s H args us vs Q E hr he hb hv hs => F.run A outer s H args us vs Q E hr he hb hv (h _ _ _ _ hs)⟩

theorem Env0.make {P : Program} {w : World} {K : PySem.W.Frag} {mg : Str → Option Value} {base : Heap} {A : Around} {outer : List Env} {s : Shared} {H : Hp} (e : Env0 P w K mg base A outer s H) (C : Addr) (us : List Value) (kw : List (Str × Value)) :
    Env0 P w K mg base (A.under (.builtin "type.__call__" ⟨.ref C :: us, kw⟩)) outer s H := ⟨by first | exact e.frames | (simpa [Around.under, Code.envs, Code.isFrame, pushEnvs] using e.frames), e.mod, e.bs, e.bsz, e.funs, e.frf, e.hok, e.bare⟩
theorem Env0.in1 {P : Program} {w : World} {K : PySem.W.Frag} {mg : Str → Option Value} {base : Heap} {A : Around} {outer : List Env} {s : Shared} {H : Hp} (e : Env0 P w K mg base A outer s H) :
    Env0 P w K mg base A.in1 outer s H := ⟨e.frames, e.mod, e.bs, e.bsz, e.funs, e.frf, e.hok, e.bare⟩

section
variable {X : Cx} {pins : List (Addr × Obj)} {σ : St} {H : Hp} {s s' : Shared}
/-- from a body: what a callee wants -/
theorem Inv.env0 (I : Inv X pins σ H s) : Env0 X.prog X.w X.K X.mg X.base X.A X.stack s H :=
  ⟨I.ok.frames, I.ok.mod, I.bs, Nat.le_trans I.ok.bsz I.sz, I.stack, I.stkFree, I.hok, I.bare⟩
/-- behind a call -/
theorem Inv.after {Q : VK} {u : Value} (I : Inv X pins σ H s) (h : CE X.stack X.prog X.w H s Q u s') : EP X pins σ Q u s' := by
  obtain ⟨v, H', os, bare, un, hok, r, q⟩ := h
  obtain ⟨hh, g, d, t, os'⟩ := s'
  obtain rfl : os' = s.os := os
  exact ⟨v, H', I.call (h' := hh) (g' := g) (d' := d) (t' := t) (ch := []) un hok bare (fun b z => absurd z (by simp)), r, q⟩
end

/-! ### calls -/
/-- f(..): the written arguments, then the defaults dvs; E: what is wanted of an exception -/
def tCall (sp : Sp) (dvs : List V) (E : XK) (t : TA) : TE := fun σ H Q => t σ H fun vs H1 => sp (vs ++ dvs) H1 Q E
/-- o.m(..) of an instance of the class at C -/
def tMeth (C : Addr) (m : Str) (sp : Sp) (dvs : List V) (E : XK) (ta : TE) (t : TA) : TE := fun σ H Q => ta σ H fun x H1 => ∃ a dx fs, x = .ref a ∧ H1 a = some (.ins C dx fs) ∧ fs.lookup m = none ∧
  t σ H1 fun vs H2 => sp (x :: (vs ++ dvs)) H2 Q E
/-- C(..): a new instance and its dict, then __init__ -/
def tMake (C : Addr) (sp : Sp) (dvs : List V) (E : XK) (t : TA) : TE := fun σ H Q => t σ H fun vs H1 => ∀ x dx, H1 x = none → H1 dx = none → dx ≠ x →
  sp (.ref x :: (vs ++ dvs)) (upd (upd H1 dx (.own x)) x (.ins C dx [])) (fun v H2 => v = .non ∧ Q (.ref x) H2) E

/-- how the parameters are bound: us the positional arguments, kw the keywords' values by name, ds the defaults that fill up -/
def Binds (K : PySem.W.Frag) (fd : FuncData) (ps : List Str) (ds : List Value) : Prop :=
  ∀ (s : Shared) (us : List Value), K.In s.heap → (us ++ ds).length = ps.length → BindsTo s fd ⟨us, []⟩ (ps.zip (us ++ ds))
/-- every parameter is given -/
theorem Binds.all {K : PySem.W.Frag} {fd : FuncData} {ps : List Str} (h : ∀ us : List Value, us.length = ps.length → bindArgs fd ⟨us, []⟩ = pure (ps.zip us)) : Binds K fd ps [] := fun s us _ hl => by
  rw [List.append_nil] at hl ⊢
  exact .of_eq (h us hl)

/-- an exception of a callee reaches what this body wants of exceptions -/
def Passes (CX : CXT) (X : Cx) (E : XK) : Prop := ∀ (pins : List (Addr × Obj)) (σ : St) (H : Hp) (s : Shared) (e : Value) (s' : Shared), Inv X pins σ H s → CX X.stack H s E e s' → X.xe e s'

section
variable {X : Cx} {CX : CXT} {k : Nat} {f C : Addr} {fd : FuncData} {ps : List Str} {sp : Sp} {dvs : List V} {ds : List Value} {E : XK} {x m : Str} {p pos apos : Pos} {e o : Expr} {es : List Expr} {ta : TE} {t : TA}

/-- the callee runs -/
theorem run_fn {pins : List (Addr × Obj)} {σ : St} {H : Hp} {s : Shared} {Q : VK} {us : List Value} {vs : List V} (F : FnOk X.prog X.w X.K X.mg X.base CX k f fd ps sp) (hr : Room k X.A) (hb : Binds X.K fd ps ds) (hd : Vals dvs ds) (hx : Passes CX X E)
    (I : Inv X pins σ H s) (r : Vals vs us) (h : sp (vs ++ dvs) H Q E) : wpAny (model X.prog X.w) X.A (call (.ref f) us) (EP X pins σ Q) X.xe s := by
  have r2 : Vals (vs ++ dvs) (us ++ ds) := r.append hd
  have hl : (us ++ ds).length = ps.length := by rw [← r2.length]; exact F.len _ _ _ _ h
  refine wpAny_call (codeAny_mono (F.run X.A X.stack s H ⟨us, []⟩ (us ++ ds) (vs ++ dvs) Q E hr I.env0 (hb s us I.kIn hl) r2 h) fun r s' hq => ?_)
  cases r with
  | error e => exact hx pins σ H s e s' I hq
  | ok fl =>
    cases fl with
    | ret u => exact I.after hq
    | next => exact False.elim hq
    | brk => exact False.elim hq
    | cont => exact False.elim hq

theorem pe_call (F : FnOk X.prog X.w X.K X.mg X.base CX k f fd ps sp) (hr : Room k X.A) (hg : Gl X x) (hm : X.mg x = some (.ref f)) (hk : PySem.W.keepIn X.K (.ref f) = true) (hb : Binds X.K fd ps ds) (hd : Vals dvs ds) (hx : Passes CX X E)
    (ha : PA X (e :: es) t) (hdb : (x == ("__debug__" : Str)) = false := by decide) (he : starEach (e :: es) X.env = (false, eval e X.env) :: starEach es X.env := by rfl) (hpl : (backTo pos (starEach es X.env)).any (·.1) = false := by rfl) :
    PE X (.Call (.Name x p) (e :: es) [] pos) (tCall sp dvs E t) := by
  intro pins s σ H Q I h
  refine wpAny_Call_Name_kw (ld_glob I hg hm ?_ hdb)
  refine PySem.W.callWith_K (h₀ := X.base) I.ok.mod.kin hk (thn (ha pos pins s σ H _ I h) fun us s1 ⟨vs, H1, I1, r, q⟩ => ⟨I1.kIn, ?_⟩) he hpl
  exact run_fn F hr hb hd hx I1 r q
theorem pe_call0 (F : FnOk X.prog X.w X.K X.mg X.base CX k f fd ps sp) (hr : Room k X.A) (hg : Gl X x) (hm : X.mg x = some (.ref f)) (hk : PySem.W.keepIn X.K (.ref f) = true) (hb : Binds X.K fd ps ds) (hd : Vals dvs ds) (hx : Passes CX X E)
    (hdb : (x == ("__debug__" : Str)) = false := by decide) : PE X (.Call (.Name x p) [] [] pos) (tCall sp dvs E tNil) := by
  intro pins s σ H Q I h
  refine wpAny_Call_Name_kw (ld_glob I hg hm ?_ hdb)
  exact PySem.W.callWith_K0 I.kIn hk (run_fn (us := []) F hr hb hd hx I .nil h)

/-- o.m(e, ..) -/
theorem pe_meth {pl : Sem Bool} (he : PE X o ta) (c : Cls X.K C) (hm : Meth X.K C m f) (F : FnOk X.prog X.w X.K X.mg X.base CX k f fd ps sp) (hr : Room k X.A) (hb : Binds X.K fd ps ds) (hd : Vals dvs ds) (hx : Passes CX X E) (ha : PA X (e :: es) t)
    (hst : starEach (e :: es) X.env = (false, eval e X.env) :: starEach es X.env := by rfl) (hpl : (backTo pos (starEach es X.env)).any (·.1) = false := by rfl)
    (ht : eval (.Call (.Attribute o m apos) (e :: es) [] pos) X.env = (do
      let ov ← eval o X.env
      standAt apos.atName
      let (f, first) ← holding [ov] (getMethod ov m pl)
      callWith pos f first (backTo pos (starEach (e :: es) X.env)) (backToKw pos (keywordEach [] X.env))) := by rfl) :
    PE X (.Call (.Attribute o m apos) (e :: es) [] pos) (tMeth C m sp dvs E ta t) := by
  intro pins s σ H Q I h
  refine PySem.W.methodCall_KW (pl := pl) (thn (he pins s σ H _ I h) fun u s1 ⟨x, H1, I1, rx, a, dx, fs, ex, ea, l, q⟩ => ?_) ht
  subst ex
  obtain rfl : u = Value.ref a := rx
  refine getmeth_ok I1 ea c hm l ?_
  refine PySem.W.callWith_K (first := [.ref a]) (h₀ := X.base) I.ok.mod.kin hm.kp (thn (ha pos pins s1 σ H1 _ I1 q) fun us s2 ⟨vs, H2, I2, r, q2⟩ => ⟨I2.kIn, ?_⟩) hst hpl
  exact run_fn (us := .ref a :: us) (vs := .ref a :: vs) F hr hb hd hx I2 (.cons rfl r) q2
/-- o.m() -/
theorem pe_meth0 {pl : Sem Bool} (he : PE X o ta) (c : Cls X.K C) (hm : Meth X.K C m f) (F : FnOk X.prog X.w X.K X.mg X.base CX k f fd ps sp) (hr : Room k X.A) (hb : Binds X.K fd ps ds) (hd : Vals dvs ds) (hx : Passes CX X E)
    (ht : eval (.Call (.Attribute o m apos) [] [] pos) X.env = (do
      let ov ← eval o X.env
      standAt apos.atName
      let (f, first) ← holding [ov] (getMethod ov m pl)
      callWith pos f first (backTo pos (starEach [] X.env)) (backToKw pos (keywordEach [] X.env))) := by rfl) :
    PE X (.Call (.Attribute o m apos) [] [] pos) (tMeth C m sp dvs E ta tNil) := by
  intro pins s σ H Q I h
  refine PySem.W.methodCall_KW (pl := pl) (thn (he pins s σ H _ I h) fun u s1 ⟨x, H1, I1, rx, a, dx, fs, ex, ea, l, q⟩ => ?_) ht
  subst ex
  obtain rfl : u = Value.ref a := rx
  refine getmeth_ok I1 ea c hm l ?_
  exact PySem.W.callWith_K0 (first := [.ref a]) I1.kIn hm.kp (run_fn (us := [.ref a]) (vs := [.ref a]) F hr hb hd hx I1 (.cons rfl .nil) q)

/-- what a class must have to be made -/
structure Mk (K : PySem.W.Frag) (C f : Addr) : Prop where
  makes : PySem.W.makesIn K C = true
  init : PySem.W.findIn K (.ref C) "__init__" = some (some (.ref f))
  fn : PySem.W.isFn K (.ref f) = true
  kp : PySem.W.keepIn K (.ref C) = true

theorem run_make {pins : List (Addr × Obj)} {σ : St} {H : Hp} {s : Shared} {Q : VK} {us : List Value} {vs : List V} (M : Mk X.K C f) (F : FnOk X.prog X.w X.K X.mg X.base CX k f fd ps sp) (hr : Room (k + 1) X.A) (hb : Binds X.K fd ps ds) (hd : Vals dvs ds)
    (hx : Passes CX X E) (I : Inv X pins σ H s) (r : Vals vs us)
    (h : ∀ x dx, H x = none → H dx = none → dx ≠ x → sp (.ref x :: (vs ++ dvs)) (upd (upd H dx (.own x)) x (.ins C dx [])) (fun v H2 => v = .non ∧ Q (.ref x) H2) E) :
    wpAny (model X.prog X.w) X.A (call (.ref C) us) (EP X pins σ Q) X.xe s := by
  have hq := h (s.heap.objs.size + 1) s.heap.objs.size (I.hok.fresh (Nat.le_succ _)) (I.hok.fresh (Nat.le_refl _)) (Nat.ne_of_lt (Nat.lt_succ_self _))
  have I2 := Inv.made (C := C) I
  have r2 : Vals (V.ref (s.heap.objs.size + 1) :: (vs ++ dvs)) (Value.ref (s.heap.objs.size + 1) :: (us ++ ds)) := .cons rfl (r.append hd)
  have hl : (Value.ref (s.heap.objs.size + 1) :: us ++ ds).length = ps.length := by
    have e := r2.length
    rw [F.len _ _ _ _ hq] at e
    exact e.symm
  refine wpAny_call (make_map (f := f) I.kIn M.makes M.init (beq_iff_eq.mp M.fn) (codeAny_mono (F.run _ X.stack _ _ ⟨Value.ref (s.heap.objs.size + 1) :: us, []⟩ (Value.ref (s.heap.objs.size + 1) :: (us ++ ds)) _ _ E (hr.make C us [])
    (I2.env0.make C us []) (hb _ (Value.ref (s.heap.objs.size + 1) :: us) I2.kIn hl) r2 hq) fun r s' hq' => ?_))
  cases r with
  | error e => exact hx pins σ _ _ e s' I2 hq'
  | ok fl =>
    cases fl with
    | ret u =>
      obtain ⟨v, H', I3, rv, ev, q3⟩ := I2.after hq'
      subst ev
      exact ⟨rv, ⟨V.ref (s.heap.objs.size + 1), H', I3, rfl, q3⟩⟩
    | next => exact False.elim hq'
    | brk => exact False.elim hq'
    | cont => exact False.elim hq'
theorem pe_make (M : Mk X.K C f) (F : FnOk X.prog X.w X.K X.mg X.base CX k f fd ps sp) (hr : Room (k + 1) X.A) (hg : Gl X x) (hm : X.mg x = some (.ref C)) (hb : Binds X.K fd ps ds) (hd : Vals dvs ds) (hx : Passes CX X E)
    (ha : PA X (e :: es) t) (hdb : (x == ("__debug__" : Str)) = false := by decide) (he : starEach (e :: es) X.env = (false, eval e X.env) :: starEach es X.env := by rfl) (hpl : (backTo pos (starEach es X.env)).any (·.1) = false := by rfl) :
    PE X (.Call (.Name x p) (e :: es) [] pos) (tMake C sp dvs E t) := by
  intro pins s σ H Q I h
  refine wpAny_Call_Name_kw (ld_glob I hg hm ?_ hdb)
  refine PySem.W.callWith_K (h₀ := X.base) I.ok.mod.kin M.kp (thn (ha pos pins s σ H _ I h) fun us s1 ⟨vs, H1, I1, r, q⟩ => ⟨I1.kIn, ?_⟩) he hpl
  exact run_make M F hr hb hd hx I1 r q
theorem pe_make0 (M : Mk X.K C f) (F : FnOk X.prog X.w X.K X.mg X.base CX k f fd ps sp) (hr : Room (k + 1) X.A) (hg : Gl X x) (hm : X.mg x = some (.ref C)) (hb : Binds X.K fd ps ds) (hd : Vals dvs ds) (hx : Passes CX X E)
    (hdb : (x == ("__debug__" : Str)) = false := by decide) : PE X (.Call (.Name x p) [] [] pos) (tMake C sp dvs E tNil) := by
  intro pins s σ H Q I h
  refine wpAny_Call_Name_kw (ld_glob I hg hm ?_ hdb)
  exact PySem.W.callWith_K0 I.kIn M.kp (run_make (us := []) M F hr hb hd hx I .nil h)
end

/-! ### keywords -/
/-- the values of the keywords, from the left -/
def PK (X : Cx) (kws : List Keyword) (t : TA) : Prop :=
  ∀ (pos : Pos) (pins : List (Addr × Obj)) (s : Shared) (σ : St) (H : Hp) (Q : List V → Hp → Prop), Inv X pins σ H s → t σ H Q → wpAny (model X.prog X.w) X.A (evalAll ((backToKw pos (keywordEach kws X.env)).map (·.2))) (AP X pins σ Q) X.xe s
section
variable {X : Cx} {CX : CXT} {k : Nat} {f C : Addr} {fd : FuncData} {ps ks : List Str} {sp : Sp} {E : XK} {x m : Str} {p pos apos kpos : Pos} {e o : Expr} {es : List Expr} {kws : List Keyword} {te ta : TE} {t tk : TA} {nm : Option Str}
theorem pk_nil : PK X [] tNil := fun _ _ _ _ H Q I h => wpAny_evalAll_nil ⟨[], H, I, .nil, h⟩
theorem pk_cons (ha : PE X e te) (hr : PK X kws t) : PK X (⟨nm, e, kpos⟩ :: kws) (tCons te t) := by
  intro pos pins s σ H Q I h
  show wpAny _ _ (evalAll ((do let v ← eval e X.env; standAt pos; pure v) :: (backToKw pos (keywordEach kws X.env)).map (·.2))) _ _ s
  refine wpAny_evalAll_cons (wpAny_bind (thn (ha pins s σ H _ I h) fun u s1 ⟨x, H1, I1, r1, q1⟩ => wpAny_bind (wpAny_standAt (wpAny_pure ?_))))
  exact thn (hr pos pins s1 σ H1 _ I1 q1) fun us s2 ⟨xs, H2, I2, r2, q2⟩ => ⟨x :: xs, H2, I2, .cons r1 r2, q2⟩

/-- how a call with keywords binds: g puts the positional values us and the keywords' values ws (names ks) in the parameters' order, defaults among them -/
structure KBinds (K : PySem.W.Frag) (fd : FuncData) (ps ks : List Str) (g : List Value → List Value → List Value) (gV : List V → List V → List V) : Prop where
  to : ∀ (s : Shared) (us ws : List Value), K.In s.heap → (g us ws).length = ps.length → BindsTo s fd ⟨us, ks.zip ws⟩ (ps.zip (g us ws))
  rel : ∀ {vs : List V} {us : List Value} {zs : List V} {ws : List Value}, Vals vs us → Vals zs ws → Vals (gV vs zs) (g us ws)
def tCallK (sp : Sp) (gV : List V → List V → List V) (E : XK) (t tk : TA) : TE := fun σ H Q => t σ H fun vs H1 => tk σ H1 fun zs H2 => sp (gV vs zs) H2 Q E
variable {g : List Value → List Value → List Value} {gV : List V → List V → List V}
theorem run_fnk {pins : List (Addr × Obj)} {σ : St} {H : Hp} {s : Shared} {Q : VK} {us ws : List Value} {vs zs : List V} (F : FnOk X.prog X.w X.K X.mg X.base CX k f fd ps sp) (hr : Room k X.A) (hb : KBinds X.K fd ps ks g gV) (hx : Passes CX X E)
    (I : Inv X pins σ H s) (r : Vals vs us) (rz : Vals zs ws) (h : sp (gV vs zs) H Q E) : wpAny (model X.prog X.w) X.A (call (.ref f) us (ks.zip ws)) (EP X pins σ Q) X.xe s := by
  have r2 := hb.rel r rz
  have hl : (g us ws).length = ps.length := by rw [← r2.length]; exact F.len _ _ _ _ h
  refine wpAny_call (codeAny_mono (F.run X.A X.stack s H ⟨us, ks.zip ws⟩ (g us ws) (gV vs zs) Q E hr I.env0 (hb.to s us ws I.kIn hl) r2 h) fun r s' hq => ?_)
  cases r with
  | error e => exact hx pins σ H s e s' I hq
  | ok fl =>
    cases fl with
    | ret u => exact I.after hq
    | next => exact False.elim hq
    | brk => exact False.elim hq
    | cont => exact False.elim hq
/-- f(e, .., k = v, ..) -/
theorem pe_callK (F : FnOk X.prog X.w X.K X.mg X.base CX k f fd ps sp) (hr : Room k X.A) (hg : Gl X x) (hm : X.mg x = some (.ref f)) (hk : PySem.W.keepIn X.K (.ref f) = true) (hb : KBinds X.K fd ps ks g gV) (hx : Passes CX X E)
    (ha : PA X (e :: es) t) (hkw : PK X kws tk) (hall : (backToKw pos (keywordEach kws X.env)).all (·.1.isSome) = true := by rfl) (hks : (backToKw pos (keywordEach kws X.env)).filterMap (·.1) = ks := by rfl)
    (hdb : (x == ("__debug__" : Str)) = false := by decide) (he : starEach (e :: es) X.env = (false, eval e X.env) :: starEach es X.env := by rfl)
    (hpl : ((backTo pos (starEach (e :: es) X.env)).any (·.1) || (backToKw pos (keywordEach kws X.env)).any (·.1.isNone)) = false := by rfl) :
    PE X (.Call (.Name x p) (e :: es) kws pos) (tCallK sp gV E t tk) := by
  intro pins s σ H Q I h
  refine wpAny_Call_Name_kw (ld_glob I hg hm ?_ hdb)
  refine PySem.W.callWith_KW (h₀ := X.base) I.ok.mod.kin hk hall (thn (ha pos pins s σ H _ I h) fun us s1 ⟨vs, H1, I1, r, q⟩ => ?_) hpl he
  refine thn (hkw pos pins s1 σ H1 _ I1 q) fun ws s2 ⟨zs, H2, I2, rz, q2⟩ => ⟨I2.kIn, ?_⟩
  rw [hks]
  exact run_fnk F hr hb hx I2 r rz q2
end

/-! ### a def's body keeps its promise -/
/-- names: the parameters first -/
structure FnScope (N P : List Str) (sc : Scope) : Prop where
  kind : sc.kind = .function
  co : sc.isCoroutine = false
  gen : sc.isGenerator = false
  nd : N.Nodup
  pre : N.take P.length = P
  par : ∀ x ∈ P, sc.names.lookup x = some .local ∨ sc.names.lookup x = some .cell
  nofree : ∀ y ∈ sc.names, y.2 ≠ .free

theorem bindL_out {kindOf : Str → Option NameKind} {x : Str} : ∀ {binds : List (Str × Value)} {m : Str → Option Value}, (∀ v, (x, v) ∉ binds) → bindL kindOf binds m x = m x
  | [], _, _ => rfl
  | (n, v) :: r, m, h => by
    unfold bindL
    rw [bindL_out fun w hw => h w (List.mem_cons_of_mem _ hw)]
    split
    · have : x ≠ n := by rintro rfl; exact h v List.mem_cons_self
      simp [this]
    · rfl
theorem bindC_out {kindOf : Str → Option NameKind} {x : Str} : ∀ {binds : List (Str × Value)} {m : Str → Option Value}, (∀ v, (x, v) ∉ binds) → bindC kindOf binds m x = m x
  | [], _, _ => rfl
  | (n, v) :: r, m, h => by
    unfold bindC
    rw [bindC_out fun w hw => h w (List.mem_cons_of_mem _ hw)]
    split
    · rfl
    · have : x ≠ n := by rintro rfl; exact h v List.mem_cons_self
      simp [this]
theorem bindL_get {kindOf : Str → Option NameKind} {x : Str} {v : Value} : ∀ {P : List Str} {vs : List Value} {i : Nat} {m : Str → Option Value}, P.Nodup → P[i]? = some x → vs[i]? = some v → kindOf x = some .local →
    bindL kindOf (P.zip vs) m x = some v
  | [], _, _, _, _, h, _, _ => by simp at h
  | _ :: _, [], _, _, _, _, h, _ => by simp at h
  | p :: P, w :: vs, 0, m, nd, h1, h2, hk => by
    simp at h1 h2; subst h1; subst h2
    show bindL kindOf ((p, w) :: P.zip vs) m p = _
    unfold bindL
    rw [bindL_out fun v hv => (List.nodup_cons.mp nd).1 (List.of_mem_zip hv).1, if_pos hk]
    simp
  | p :: P, w :: vs, i + 1, m, nd, h1, h2, hk => by
    show bindL kindOf ((p, w) :: P.zip vs) m x = _
    unfold bindL
    exact bindL_get (i := i) (List.nodup_cons.mp nd).2 (by simpa using h1) (by simpa using h2) hk
theorem bindC_get {kindOf : Str → Option NameKind} {x : Str} {v : Value} : ∀ {P : List Str} {vs : List Value} {i : Nat} {m : Str → Option Value}, P.Nodup → P[i]? = some x → vs[i]? = some v → kindOf x ≠ some .local →
    bindC kindOf (P.zip vs) m x = some v
  | [], _, _, _, _, h, _, _ => by simp at h
  | _ :: _, [], _, _, _, _, h, _ => by simp at h
  | p :: P, w :: vs, 0, m, nd, h1, h2, hk => by
    simp at h1 h2; subst h1; subst h2
    show bindC kindOf ((p, w) :: P.zip vs) m p = _
    unfold bindC
    rw [bindC_out fun v hv => (List.nodup_cons.mp nd).1 (List.of_mem_zip hv).1, if_neg hk]
    simp
  | p :: P, w :: vs, i + 1, m, nd, h1, h2, hk => by
    show bindC kindOf ((p, w) :: P.zip vs) m x = _
    unfold bindC
    exact bindC_get (i := i) (List.nodup_cons.mp nd).2 (by simpa using h1) (by simpa using h2) hk

/-- the names' values at the entry -/
def start (N : List Str) (vs : List V) : St := vs.map some ++ List.replicate (N.length - vs.length) none

/-- the context of a def's body, at its entry; an exception leaves the frame, then lies as CX says -/
def cxOf (CX : CXT) (P : Program) (w : World) (K : PySem.W.Frag) (mg : Str → Option Value) (base : Heap) (N : List Str) (qual : Str) (scope : Scope) (f : Addr) (cd : Value) (A : Around) (outer : List Env) (s : Shared) (H : Hp) (E : XK) : Cx where
  prog := P
  w := w
  K := K
  mg := mg
  base := base
  A := A.deeper (envOfC qual scope s.heap.objs.size f cd)
  N := N
  s₀ := s
  H₀ := H
  env := envOfC qual scope s.heap.objs.size f cd
  outer := outer
  stack := envOfC qual scope s.heap.objs.size f cd :: outer
  ex := []
  calm := true
  fn := fun _ => true
  pn := []
  xe := fun e s' => wpAny (model P w) (A.deeper (envOfC qual scope s.heap.objs.size f cd)) (leaving (envOfC qual scope s.heap.objs.size f cd) e) (fun _ s'' => CX outer H s E e s'') (fun e' s'' => CX outer H s E e' s'') s'

theorem cell_has {sc : Scope} {n : Nat} {x : Str} (h : sc.names.lookup x = some .cell) : ∃ c, (cellsFrom n sc.names []).lookup x = some c := by
  have q := PySem.W.cellsFrom_some sc.names n [] (.inl h)
  exact Option.isSome_iff_exists.mp q

theorem inv_start {CX : CXT} {P : Program} {w : World} {K : PySem.W.Frag} {mg : Str → Option Value} {base : Heap} {N ps : List Str} {qual : Str} {scope : Scope} {f : Addr} {cd : Value} {A : Around} {outer : List Env} {s s1 : Shared} {H : Hp} {E : XK} {us : List Value} {vs : List V}
    (S : FnScope N ps scope) (hd : A.handled = none) (e0 : Env0 P w K mg base A outer s H) (hl : vs.length = ps.length) (r : Vals vs us)
    (x : InCallC s s.heap.objs.size (bindL (envOfC qual scope s.heap.objs.size f cd).kindOf (ps.zip us) fun _ => none) (cellsFrom (s.heap.objs.size + 1) scope.names []) (bindC (envOfC qual scope s.heap.objs.size f cd).kindOf (ps.zip us) fun _ => none) s1) :
    Inv (cxOf CX P w K mg base N qual scope f cd A outer s H E) [] (start N vs) H s1 := by
  have hpl : ps.length ≤ N.length := by have := congrArg List.length S.pre; rw [List.length_take] at this; omega
  obtain ⟨h1, tk, rfl, hk⟩ := x.done
  have noA : ∀ b : Addr, b ∉ (cxOf CX P w K mg base N qual scope f cd A outer s H E).ex := fun b z => absurd (show b ∈ ([] : List Addr) from z) (by simp)
  refine ⟨⟨e0.mod, S.kind, rfl, rfl, Nat.le_refl _, fun y z c h1 h2 => ?_, fun y hy => ?_, fun y c _ h => ?_, fun _ => hd, Around.frames_deeper e0.frames, .inr ⟨rfl, rfl⟩, fun b z => absurd z (noA b), e0.bs, e0.bsz, fun b _ _ => noA b, fun b z => absurd z (noA b), e0.funs, e0.frf⟩,
    rfl, e0.bare, Un.kept hk, ⟨_, x.toInCall.ns, fun i y v h1 h2 h3 => ?_⟩, fun y c h => ⟨_, x.cell y c h⟩, e0.hok.fresh (Nat.le_refl _), fun y c h => ?_, fun p hp => absurd (show p ∈ ([] : List (Addr × Obj)) from hp) (by simp), e0.hok.kept hk, ?_⟩
  · exact name_of_addr x.apart (PySem.mem_of_lookup h1) (PySem.mem_of_lookup h2)
  · have hy : scope.names.lookup y = some .cell ∨ scope.names.lookup y = some .free := hy
    rcases hy with hy | hy
    · exact cell_has hy
    · exact absurd rfl (S.nofree _ (PySem.mem_of_lookup hy))
  · exact Nat.le_of_lt (x.above y c (PySem.mem_of_lookup h))
  · have hi : i < vs.length := by
      unfold start at h2
      by_cases hi : i < vs.length
      · exact hi
      · rw [List.getElem?_append_right (by simpa using hi)] at h2
        rw [List.getElem?_replicate] at h2
        split at h2 <;> cases h2
    have ha : vs[i]? = some v := by
      unfold start at h2
      rw [List.getElem?_append_left (by simpa using hi), List.getElem?_map] at h2
      cases e : vs[i]? with
      | none => rw [e] at h2; cases h2
      | some a => rw [e] at h2; cases h2; rfl
    obtain ⟨u, hu, rv⟩ := r.get ha
    have hp : ps[i]? = some y := by
      rw [← S.pre, List.getElem?_take_of_lt (by omega)]; exact h1
    have ndP : ps.Nodup := by rw [← S.pre]; exact S.nd.sublist (List.take_sublist _ _)
    refine ⟨u, rv, ?_⟩
    rcases S.par y (List.mem_of_getElem? hp) with k | k
    · exact .inl ⟨k, bindL_get ndP hp hu k⟩
    · obtain ⟨c, e⟩ := cell_has (n := s.heap.objs.size + 1) k
      refine .inr ⟨.inl k, c, e, ?_⟩
      have q := x.cell y c e
      rw [bindC_get ndP hp hu (by show scope.names.lookup y ≠ _; rw [k]; decide)] at q
      exact q
  · exact e0.hok.fresh (Nat.le_of_lt (x.above y c (PySem.mem_of_lookup h)))
  · unfold start
    show _ = N.length
    rw [List.length_append, List.length_map, List.length_replicate]
    omega

/-- THE RULE: a def (or a method) of the text, by its body. The body's reading t is chosen for each entry; it is run at the parameters' values -/
theorem fn_of {CX : CXT} {P : Program} {w : World} {K : PySem.W.Frag} {mg : Str → Option Value} {base : Heap} {k : Nat} {f : Addr} {name qual : Str} {params : Arguments} {body : List Stmt} {scope : Scope} {dV kV doc pm cdv ct oc : Value} {an od : Option Addr}
    {osl : Array (Option Value)} {N ps : List Str} {sp : Sp} (lk : K.lookup f = some ⟨oc, od, .func (PySem.W.fnOf name qual params body scope dV kV doc pm an cdv ct), osl⟩) (hcd : PySem.W.codeIn K cdv qual = true) (S : FnScope N ps scope)
    (len : ∀ vs H Q E, sp vs H Q E → vs.length = ps.length)
    (hbody : ∀ (A : Around) (outer : List Env) (s : Shared) (H : Hp) (vs : List V) (Q : VK) (E : XK), Room k (A.deeper (envOfC qual scope s.heap.objs.size f cdv)) → sp vs H Q E →
      ∃ t, PSs (cxOf CX P w K mg base N qual scope f cdv A outer s H E) body t ∧ t { nx := fun _ H' => Q .non H', rt := Q } (start N vs) H) :
    FnOk P w K mg base CX (k + 1) f (PySem.W.fnOf name qual params body scope dV kV doc pm an cdv ct) ps sp := by
  refine ⟨len, fun A outer s H args us vs Q E hr e0 hb r hsp => ?_⟩
  have hl := len _ _ _ _ hsp
  have KX : K.In s.heap := e0.mod.kin.keeps fun b o e => (e0.bs b o e).1
  have lim : s.heap.NoLimit := e0.mod.nolimit.keeps fun b o e => (e0.bs b o e).1
  have hkind : ∀ y ∈ ps.zip us, scope.names.lookup y.1 = some .local ∨ (scope.names.lookup y.1 = some .cell ∧ ((cellsFrom (s.heap.objs.size + 1) scope.names []).lookup y.1).isSome = true) := fun ⟨n, v⟩ hy => by
    rcases S.par n (List.of_mem_zip hy).1 with q | q
    · exact .inl q
    · exact .inr ⟨q, PySem.W.cellsFrom_some _ _ _ (.inl q)⟩
  refine codeAny_call_function hr.depth (KX _ _ lk) rfl S.co S.gen rfl (PySem.W.codeRec_of KX hcd) (hb _ _ _ _ ?_)
  refine wpAny_newFunctionEnv_cells S.kind hkind fun env he s1 x => ?_
  subst he
  refine ⟨lim.keeps x.toInCall.keep, codeAny_func ?_⟩
  obtain ⟨t, ht, hq⟩ := hbody A outer s H vs Q E (hr.deeper _) hsp
  have I : Inv (cxOf CX P w K mg base N qual scope f cdv A outer s H E) [] (start N vs) H s1 := inv_start S hr.hd e0 hl r x
  refine wpAny_mono (ht [] s1 (start N vs) H _ I hq) (fun fl s' hs => ?_) fun e s' hs => hs
  have fin : ∀ {σ' : St} {H' : Hp} {v : V} {u : Value}, Inv (cxOf CX P w K mg base N qual scope f cdv A outer s H E) [] σ' H' s' → RelV v u → Q v H' → CE outer P w H s Q u s' :=
    fun {σ' H' v u} J rv q => ⟨v, H', J.os, J.bare, J.base, J.hok, rv, q⟩
  cases fl with
  | ret u =>
    obtain ⟨v, σ', H', J, rv, q⟩ := hs
    exact fin J rv q
  | next =>
    obtain ⟨σ', H', J, q⟩ := hs
    exact fin (v := V.non) (u := Value.none) J rfl q
  | brk =>
    obtain ⟨_, _, _, q⟩ := hs
    exact False.elim q
  | cont =>
    obtain ⟨_, _, _, q⟩ := hs
    exact False.elim q
end L2

namespace L2
open PySem PySem.Spec PyProof.Rows
section
variable {X : Cx} {x : Str} {p pos : Pos} {e : Expr} {es : List Expr} {t : TA} {id T : String} {r : List V → Hp → VK → Prop}

def tCB (r : List V → Hp → VK → Prop) (t : TA) : TE := fun σ H Q => t σ H fun vs H1 => r vs H1 Q
/-- f(e, ..), f a built-in function -/
theorem pe_callB (hc : CallR X (.builtin id) r) (hg : Gl X x) (hm : X.mg x = none) (hv : bootBuiltins x = some (.builtin id)) (ha : PA X (e :: es) t) (hn : x ≠ "__name__" := by decide) (hdb : (x == ("__debug__" : Str)) = false := by decide)
    (he : starEach (e :: es) X.env = (false, eval e X.env) :: starEach es X.env := by rfl) (hpl : (backTo pos (starEach es X.env)).any (·.1) = false := by rfl) : PE X (.Call (.Name x p) (e :: es) [] pos) (tCB r t) := by
  intro pins s σ H Q I h
  refine wpAny_Call_Name_kw (ld_blt I hg hm hv ?_ hn hdb)
  exact PyProof.Rows.callWith_builtin1 (thn (ha pos pins s σ H _ I h) fun us s1 ⟨vs, H1, I1, r1, q1⟩ => hc pins s1 σ H1 vs us Q I1 r1 q1) he hpl
/-- T(e, ..), T a built-in type -/
theorem pe_callTy (hc : CallR X (.type T) r) (hg : Gl X x) (hm : X.mg x = none) (hv : bootBuiltins x = some (.type T)) (ha : PA X (e :: es) t) (hn : x ≠ "__name__" := by decide) (hdb : (x == ("__debug__" : Str)) = false := by decide)
    (he : starEach (e :: es) X.env = (false, eval e X.env) :: starEach es X.env := by rfl) (hpl : (backTo pos (starEach es X.env)).any (·.1) = false := by rfl) : PE X (.Call (.Name x p) (e :: es) [] pos) (tCB r t) := by
  intro pins s σ H Q I h
  refine wpAny_Call_Name_kw (ld_blt I hg hm hv ?_ hn hdb)
  exact PyProof.Rows.callWith_type1 (thn (ha pos pins s σ H _ I h) fun us s1 ⟨vs, H1, I1, r1, q1⟩ => hc pins s1 σ H1 vs us Q I1 r1 q1) he hpl
/-- T() -/
theorem pe_callTy0 (hc : CallR X (.type T) r) (hg : Gl X x) (hm : X.mg x = none) (hv : bootBuiltins x = some (.type T)) (hn : x ≠ "__name__" := by decide) (hdb : (x == ("__debug__" : Str)) = false := by decide) :
    PE X (.Call (.Name x p) [] [] pos) (tCB r tNil) := by
  intro pins s σ H Q I h
  refine wpAny_Call_Name_kw (ld_blt I hg hm hv ?_ hn hdb)
  exact PyProof.Rows.callWith_type0 (hc pins s σ H [] [] Q I .nil h)
end
end L2

namespace HT
open PySem PyProof.Rows

/-- t < u of tuples of ints -/
def lexLt : List Int → List Int → Bool
  | [], [] => false
  | [], _ :: _ => true
  | _ :: _, [] => false
  | x :: xs, y :: ys => if x = y then lexLt xs ys else decide (x < y)
theorem lexLt_cons (x y : Int) (xs ys : List Int) : lexLt (x :: xs) (y :: ys) = if x = y then lexLt xs ys else decide (x < y) := rfl
theorem lexLt_nil_nil : lexLt [] [] = false := rfl
theorem lexLt_nil_cons (y : Int) (ys : List Int) : lexLt [] (y :: ys) = true := rfl
theorem lexLt_cons_nil (x : Int) (xs : List Int) : lexLt (x :: xs) [] = false := rfl

theorem eqAt_int (A : Around) (s : Shared) (a : Int) (t : Tok) (c : Int) (u : Tok) : ∃ e, SeqAt.EqAt A s (.int a t) (.int c u) e ∧ (e = true ↔ a = c) :=
  ⟨(a == c), SeqAt.EqAt.int_int a t c u, by simp⟩
theorem rcLt_int (A : Around) (s : Shared) (a : Int) (t : Tok) (c : Int) (u : Tok) (prog : Program) (w : World) (E : Value → Shared → Prop) (Q : Value → Shared → Prop) (h : Q (.bool (decide (a < c))) s) :
    wpAny (model prog w) A (richCompare .Lt (.int a t) (.int c u)) Q E s :=
  (PyProof.Rows.lt_int h : wpAny (model prog w) A (compareOp .Lt (.int a t) (.int c u)) Q E s)

section
open PySem.SeqAt
open PySem.AutoSeq1 (wpAny_loadPart')
open PySem.MeetsSeq PySem.MeetsSeq2 PySem.MeetsSeq3

theorem tuple_lt_ints (l b : Addr) (items items2 : Array Value) (n n2 : Nat) (dd dd2 : Option Addr) (sl sl2 : Array (Option Value)) (ns ms : List Int) (hi : IntsAre items.toList ns) (hj : IntsAre items2.toList ms) :
    Meets (Builtin.«tuple.__lt__» ⟨[.ref l, .ref b], []⟩)
      (fun _ R s => s.heap.get? l = some { cls := .type "tuple", dict := dd, data := .seq items n, slots := sl } ∧ s.heap.get? b = some { cls := .type "tuple", dict := dd2, data := .seq items2 n2, slots := sl2 } ∧
        R (.ok (.ret (.bool (lexLt ns ms)))) s) :=
  .of_wp fun prog w A R s h => by
    obtain ⟨hp, g, d, tk, os⟩ := s; obtain ⟨hl, hb, h⟩ := h
    have f2 := AutoSeq1.sub_tuple_tuple
    have z1 : items.size = ns.length := by rw [← hi.length]; simp
    have z2 : items2.size = ms.length := by rw [← hj.length]; simp
    wp_walk using wpAny_loadPart' hl, wpAny_loadPart' hb, wpAny_forIn_list _ (fun rest b s' => b.1 = none ∧ s' = ⟨hp, g, d, tk, os⟩ ∧ ∃ (vs ws : List Value) (ns' ms' : List Int), rest = vs.zip ws ∧
      IntsAre vs ns' ∧ IntsAre ws ms' ∧ ns'.length + items2.size = ms'.length + items.size ∧ R (.ok (.ret (.bool (lexLt ns' ms')))) ⟨hp, g, d, tk, os⟩) _
    case turn =>
      rintro ⟨y, x⟩ rest b s' ⟨hb', rfl, vs, ws, ns', ms', hz, hvi, hwi, hlen, hR⟩
      cases hvi with
      | nil => rw [List.zip_nil_left] at hz; cases hz
      | cons a t hvi' =>
        cases hwi with
        | nil => rw [List.zip_nil_right] at hz; cases hz
        | cons c u hwi' =>
          rw [List.zip_cons_cons] at hz
          injection hz with hyx hrest
          injection hyx with hy hx
          subst hy hx
          rw [lexLt_cons] at hR
          simp only [List.length_cons] at hlen
          obtain ⟨e, he, hiff⟩ := eqAt_int A.in1 ⟨hp, g, d, tk, os⟩ a t c u
          refine wpAny_bind (he prog w _ _ ?_)
          cases e with
          | true =>
            rw [if_pos (hiff.mp rfl)] at hR
            wp_walk
            exact ⟨rfl, rfl, _, _, _, _, hrest, hvi', hwi', by omega, hR⟩
          | false =>
            rw [if_neg (fun q => absurd (hiff.mpr q) Bool.false_ne_true)] at hR
            have hri := rcLt_int A.in1 ⟨hp, g, d, tk, os⟩ a t c u prog w
            wp_walk using hri
            exact ⟨_, rfl, by simpa using hR⟩
    case fin =>
      rintro ⟨b1, b2⟩ s' ⟨hb', rfl, vs, ws, ns', ms', hz, hvi, hwi, hlen, hR⟩
      simp only at hb'
      subst hb'
      have hv : lexLt ns' ms' = decide (items.size < items2.size) := by
        cases hvi with
        | nil =>
          cases hwi with
          | nil =>
            simp only [List.length_nil] at hlen
            rw [lexLt_nil_nil]
            exact (decide_eq_false (by omega)).symm
          | cons c u hw =>
            simp only [List.length_nil, List.length_cons] at hlen
            rw [lexLt_nil_cons]
            exact (decide_eq_true (by omega)).symm
        | cons a t hv =>
          cases hwi with
          | nil =>
            simp only [List.length_nil, List.length_cons] at hlen
            rw [lexLt_cons_nil]
            exact (decide_eq_false (by omega)).symm
          | cons c u hw =>
            rw [List.zip_cons_cons] at hz
            cases hz
      rw [hv] at hR
      wp_walk
      exact ⟨_, rfl, by simpa [Builtin.Tuple.tupleCompareSizes] using hR⟩
    case h =>
      exact ⟨rfl, rfl, items.toList, items2.toList, ns, ms, rfl, hi, hj, by omega, h⟩
end

section
variable {prog : Program} {w : World} {A : Around} {E : Value → Shared → Prop} {s : Shared}

theorem lt_tupInts {l b : Addr} {items items2 : Array Value} {ns ms : List Int} {Q : Value → Shared → Prop} (hl : IsTup s.heap l items) (hb : IsTup s.heap b items2) (hi : IntsAre items.toList ns) (hj : IntsAre items2.toList ms)
    (hu : A.units < cLine) (h : Q (.bool (lexLt ns ms)) s) : wpAny (model prog w) A (compareOp .Lt (.ref l) (.ref b)) Q E s := by
  obtain ⟨⟨cls, dd, data, sl⟩, ho, hc, n, hd⟩ := id hl
  obtain ⟨⟨cls2, dd2, data2, sl2⟩, ho2, hc2, n2, hd2⟩ := id hb
  simp only at hc hd hc2 hd2
  subst hc hd hc2 hd2
  exact richCompare_meets_room (op := .Lt) ⟨_, ho, rfl⟩ ⟨_, ho2, rfl⟩ PySem.F.slot_tuple_lt PySem.F.entry_tuple_lt (PySem.F.args_tuple_lt_2 _ _) (tuple_lt_ints l b items items2 n n2 dd dd2 sl sl2 ns ms hi hj)
    ⟨ho, ho2, show Value.bool (lexLt ns ms) ≠ Value.notImplemented ∧ Q (.bool (lexLt ns ms)) s from ⟨(fun x => nomatch x), h⟩⟩ hu

/-- t + u, t not empty -/
theorem cat_tup {t b : Addr} {vs ws : List Value} {Q : Value → Shared → Prop} (ht : IsTup s.heap t vs.toArray) (hb : IsTup s.heap b ws.toArray) (hv : vs ≠ [])
    (h1 : ws = [] → Q (.ref t) s) (h2 : ws ≠ [] → Q (.ref s.heap.objs.size) { s with heap := s.heap.push { cls := .type "tuple", data := .seq (vs ++ ws).toArray } })
    (hsz : vs.length + ws.length ≤ sizeLine) : wpAny (model prog w) A (binaryOp .Add (.ref t) (.ref b)) Q E s := by
  obtain ⟨⟨cls, dd, data, sl⟩, ho, hc, n, hd⟩ := id ht
  obtain ⟨⟨cls2, dd2, data2, sl2⟩, ho2, hc2, n2, hd2⟩ := id hb
  simp only at hc hd hc2 hd2
  subst hc hd hc2 hd2
  have e : vs.toArray ++ ws.toArray = (vs ++ ws).toArray := by simp
  by_cases hw : ws = []
  · exact concat_meets ⟨_, ho, rfl⟩ ⟨_, ho2, rfl⟩ noFill_tuple_add seq_tuple_add PySem.F.slot_tuple_add PySem.F.entry_tuple_add (PySem.F.args_tuple_add_2 _ _)
      (tuple_addW1 t b vs.toArray ws.toArray n n2 dd dd2 sl sl2 (by simpa using hv) (by simp [hw])) ⟨ho, ho2, h1 hw⟩
  · refine concat_meets ⟨_, ho, rfl⟩ ⟨_, ho2, rfl⟩ noFill_tuple_add seq_tuple_add PySem.F.slot_tuple_add PySem.F.entry_tuple_add (PySem.F.args_tuple_add_2 _ _)
      (tuple_addW2 t b vs.toArray ws.toArray n n2 dd dd2 sl sl2 (by simpa using hv) (by simpa using hw) (by rw [List.size_toArray, List.size_toArray]; exact hsz)) ⟨ho, ho2, ?_⟩
    rw [e]
    exact h2 hw

/-! ### t[a:b], not the whole -/
/-- a slice's bound as a place among n (d where it is left out) -/
def sIx (n d : Nat) : Option Int → Nat
  | none => d
  | some v => if v < 0 then (v + (n : Int)).toNat else min v.toNat n
theorem sIx_none (n d : Nat) : sIx n d none = d := rfl
theorem sIx_nat (n d k : Nat) : sIx n d (some (k : Int)) = min k n := by
  show (if (k : Int) < 0 then ((k : Int) + (n : Int)).toNat else min (k : Int).toNat n) = min k n
  rw [if_neg (by omega), Int.toNat_natCast]
theorem sIx_le (n d : Nat) (hd : d ≤ n) (o : Option Int) : sIx n d o ≤ n := by
  cases o with
  | none => exact hd
  | some v =>
    show (if v < 0 then (v + (n : Int)).toNat else min v.toNat n) ≤ n
    by_cases hv : v < 0
    · rw [if_pos hv]; omega
    · rw [if_neg hv]; exact Nat.min_le_right _ _
theorem clip_eq (v : Int) (n d : Nat) : (if v < 0 then max (v + (n : Int)) 0 else min v (n : Int)) = ((sIx n d (some v) : Nat) : Int) := by
  show (if v < 0 then max (v + (n : Int)) 0 else min v (n : Int)) = (((if v < 0 then (v + (n : Int)).toNat else min v.toNat n) : Nat) : Int)
  by_cases hv : v < 0
  · simp only [if_pos hv]; omega
  · simp only [if_neg hv]; omega
theorem adjust_gen (lo hi : Option Int) (n : Nat) : Builtin.Slice.sliceAdjust lo hi 1 (n : Int) = (((sIx n 0 lo : Nat) : Int), ((sIx n n hi : Nat) : Int)) := by
  have h1 : ¬ ((1 : Int) < 0) := by omega
  unfold Builtin.Slice.sliceAdjust
  simp only [h1, if_false]
  refine Prod.ext ?_ ?_
  · cases lo with
    | none => rfl
    | some v => exact clip_eq v n 0
  · cases hi with
    | none => rfl
    | some v => exact clip_eq v n n
theorem places_gen (i j : Nat) : Builtin.Slice.slicePlaces (i : Int) (j : Int) 1 = j - i := by
  unfold Builtin.Slice.slicePlaces
  have h1 : (1 : Int) > 0 := by omega
  simp only [h1, if_true, Int.ediv_one]
  split <;> omega
theorem slicePart_ {v : Value} {o : Option Int} {Q : Option Int → Shared → Prop} (p : IsPart v o) (h : Q o s) : wpAny (model prog w) A (Builtin.Slice.slicePartIndex v) Q E s := by
  cases p with
  | none => exact slicePart_none h
  | int i t => exact slicePart_int h
theorem sliceApplied_gen {sl : Addr} {vl vu : Value} {lo hi : Option Int} {n : Nat} {Q : Int × Int × Nat → Shared → Prop} (hs : s.heap.IsSliceOf sl vl vu .none) (pl : IsPart vl lo) (pu : IsPart vu hi)
    (h : Q (((sIx n 0 lo : Nat) : Int), 1, sIx n n hi - sIx n 0 lo) s) : wpAny (model prog w) A (Builtin.Slice.sliceApplied (.ref sl) (pure (n : Int))) Q E s := by
  obtain ⟨os, hos, hcs, hds⟩ := id hs
  unfold Builtin.Slice.sliceApplied Builtin.Slice.sliceFields
  refine wpAny_bind (wpAny_bind (wpAny_field hos hds (x := vl) rfl (wpAny_bind (wpAny_field hos hds (x := vu) rfl (wpAny_bind (wpAny_field hos hds (x := .none) rfl (wpAny_pure ?_)))))))
  refine wpAny_bind (slicePart_none ?_)
  show wpAny _ _ (if ((1 : Int) == 0) = true then _ else _) _ _ s
  rw [if_neg (by decide)]
  refine wpAny_bind (slicePart_ pl (wpAny_bind (slicePart_ pu (wpAny_bind (wpAny_pure ?_)))))
  show wpAny _ _ (match Builtin.Slice.sliceAdjust lo hi 1 (n : Int) with | (lo, hi) => pure (lo, (1 : Int), Builtin.Slice.slicePlaces lo hi 1)) _ _ s
  rw [adjust_gen lo hi n]
  show wpAny _ _ (pure (((sIx n 0 lo : Nat) : Int), (1 : Int), Builtin.Slice.slicePlaces ((sIx n 0 lo : Nat) : Int) ((sIx n n hi : Nat) : Int) 1)) _ _ s
  rw [places_gen]
  exact wpAny_pure h
theorem pick_gen (xs : Array Value) (i k : Nat) : ((List.range k).filterMap fun (m : Nat) => xs[((i : Int) + (m : Int) * 1).toNat]?).toArray = ((xs.toList.drop i).take k).toArray := by
  have e : (fun (m : Nat) => xs[((i : Int) + (m : Int) * 1).toNat]?) = fun m => xs[i + m]? := by
    funext m
    have : ((i : Int) + (m : Int) * 1).toNat = i + m := by omega
    rw [this]
  rw [e]
  have := pick_run xs i k
  rw [List.filterMap_map] at this
  have e2 : ((fun x => xs[x]?) ∘ fun x => i + x) = fun m => xs[i + m]? := rfl
  rw [e2] at this
  rw [this]

theorem getItem_tuple_cut {t sl : Addr} {items : Array Value} {vl vu : Value} {lo hi : Option Int} {Q : Value → Shared → Prop} (ht : IsTup s.heap t items) (hs : s.heap.IsSliceOf sl vl vu .none) (pl : IsPart vl lo) (pu : IsPart vu hi)
    (hw : ¬ (sIx items.size 0 lo = 0 ∧ sIx items.size items.size hi = items.size))
    (h : Q (.ref s.heap.objs.size) { s with heap := s.heap.push { cls := .type "tuple", data := .seq ((items.toList.drop (sIx items.size 0 lo)).take (sIx items.size items.size hi - sIx items.size 0 lo)).toArray } })
    (hsz : items.size ≤ sizeLine) : wpAny (model prog w) A (getItem (.ref t) (.ref sl)) Q E s := by
  have htake : sizeOk (.seq ((items.toList.drop (sIx items.size 0 lo)).take (sIx items.size items.size hi - sIx items.size 0 lo)).toArray) := by
    show ((items.toList.drop (sIx items.size 0 lo)).take (sIx items.size items.size hi - sIx items.size 0 lo)).toArray.size ≤ sizeLine
    rw [List.size_toArray, List.length_take, List.length_drop, Array.length_toList]
    omega
  have hj : sIx items.size items.size hi ≤ items.size := sIx_le _ _ (Nat.le_refl _) hi
  obtain ⟨os, hos, hcs, hds⟩ := id hs
  have hTs : s.TypeIs (.ref sl) "slice" := ⟨os, hos, hcs⟩
  unfold getItem
  try with_reducible refine wpAny_holding ?_
  first | refine wpAny_bind (wpAny_pure ?_) | skip
  refine wpAny_bind (wpAny_sequenceKey ht.typeIs (by decide) ?_)
  refine wpAny_bind (wpAny_callSpecial?_slot (name := Str.ofString "__getitem__") ht.typeIs PyProof.Rows.slot_tuple_getitem
    (wpAny_call_entry PyProof.Rows.slot_tuple_getitem ht.typeIs entry_tuple_getitem ?_ (args_tuple_getitem _ _)))
  show wpAny _ _ (Builtin.Tuple.tupleItemsOf (.ref t) >>= _) _ _ s
  refine wpAny_bind (tupleItemsOf_ ht ?_)
  refine wpAny_bind (wpAny_typeOf hTs ?_)
  rw [if_pos (by decide)]
  refine wpAny_bind (sliceApplied_gen hs pl pu ?_)
  have hno : ¬ ((((sIx items.size 0 lo : Nat) : Int) == 0 && (1 : Int) == 1 && (sIx items.size items.size hi - sIx items.size 0 lo) == items.size) = true) := by
    intro q
    rw [Bool.and_eq_true, Bool.and_eq_true] at q
    have q1 : ((sIx items.size 0 lo : Nat) : Int) = 0 := eq_of_beq q.1.1
    have q2 : sIx items.size items.size hi - sIx items.size 0 lo = items.size := eq_of_beq q.2
    exact hw ⟨by omega, by omega⟩
  show wpAny _ _ (if (((sIx items.size 0 lo : Nat) : Int) == 0 && (1 : Int) == 1 && (sIx items.size items.size hi - sIx items.size 0 lo) == items.size) = true then _ else _) _ _ s
  rw [if_neg hno, pick_gen]
  first
    | exact wpAny_bind (m := Builtin.Tuple.tupleExact _) (wpAny_newObj_type (wpAny_pure ⟨_, rfl, wpAny_pure h⟩) htake)
    | exact wpAny_bind (m := Builtin.Tuple.tupleExact _) (wpAny_newObj_type (wpAny_bind (wpAny_pure (wpAny_pure ⟨_, rfl, wpAny_pure h⟩))) htake)
    | exact wpAny_bind (wpAny_bind (m := Builtin.Tuple.tupleExact _) (wpAny_newObj_type (wpAny_pure (wpAny_pure ⟨_, rfl, wpAny_pure h⟩)) htake))
    | exact wpAny_bind (wpAny_bind (m := Builtin.Tuple.tupleExact _) (wpAny_newObj_type (wpAny_pure ⟨_, rfl, wpAny_pure h⟩) htake))
end
end HT

namespace L2
open PySem PySem.Spec PyProof.Rows

/-! ### the parts of a slice -/
abbrev TO := St → Hp → (Option Int → Hp → Prop) → Prop
/-- a slice's part (left out, or an int) -/
def PO (X : Cx) (e : Option Expr) (t : TO) : Prop :=
  ∀ (pins : List (Addr × Obj)) (s : Shared) (σ : St) (H : Hp) (Q : Option Int → Hp → Prop), Inv X pins σ H s → t σ H Q →
    wpAny (model X.prog X.w) X.A (evalPart e X.env) (fun u s' => ∃ o H', Inv X pins σ H' s' ∧ IsPart u o ∧ Q o H') X.xe s
def tNoPart : TO := fun _ H Q => Q none H
def tPart (t : TE) : TO := fun σ H Q => t σ H fun x H1 => ∃ i, x = .int i ∧ Q (some i) H1

theorem intsAre_of {ns : List Int} : ∀ {us : List Value}, Vals (ns.map V.int) us → IntsAre us ns := by
  induction ns with
  | nil => intro us r; rw [List.map_nil] at r; cases r; exact .nil
  | cons n ns ih =>
    intro us r
    rw [List.map_cons] at r
    cases r with
    | cons r1 r2 =>
      obtain ⟨t, e⟩ := r1
      subst e
      exact .cons n t (ih r2)

section
variable {X : Cx} {e : Expr} {te : TE} {lo hi : Option Expr} {tl th : TO} {pos p2 : Pos}

theorem po_none : PO X none tNoPart := by
  intro pins s σ H Q I h
  rw [evalPart_none]
  exact wpAny_pure ⟨none, H, I, .none, h⟩
theorem po_some (h : PE X e te) : PO X (some e) (tPart te) := by
  intro pins s σ H Q I hw
  rw [evalPart_some]
  refine thn (h pins s σ H _ I hw) fun u s1 ⟨x, H1, I1, r1, q1⟩ => ?_
  obtain ⟨i, rfl, q⟩ := q1
  obtain ⟨t, rfl⟩ := r1
  exact ⟨some i, H1, I1, .int i t, q⟩

/-- what a slice of a value is, by values: the slice object stands at sl -/
def SlR (X : Cx) (r : V → Option Int → Option Int → Hp → VK → Prop) : Prop :=
  ∀ (pins : List (Addr × Obj)) (s : Shared) (σ : St) (H : Hp) (x : V) (v vl vu : Value) (lo hi : Option Int) (sl : Addr) (Q : VK), Inv X pins σ H s → RelV x v → s.heap.IsSliceOf sl vl vu .none → IsPart vl lo → IsPart vu hi → r x lo hi H Q →
    ∃ T id, typeLookup (.type T) "__getitem__" = pure (some (.builtin id)) ∧ s.TypeIs v T ∧ wpAny (model X.prog X.w) X.A (getItem v (.ref sl)) (EP X pins σ Q) X.xe s
theorem SlR.or {r r' : V → Option Int → Option Int → Hp → VK → Prop} (h : SlR X r) (h' : SlR X r') : SlR X (fun x lo hi H Q => r x lo hi H Q ∨ r' x lo hi H Q) := by
  intro pins s σ H x v vl vu lo hi sl Q I rx hs pl pu q
  rcases q with q | q
  · exact h pins s σ H x v vl vu lo hi sl Q I rx hs pl pu q
  · exact h' pins s σ H x v vl vu lo hi sl Q I rx hs pl pu q
def tSl (r : V → Option Int → Option Int → Hp → VK → Prop) (te : TE) (tl th : TO) : TE := fun σ H Q => te σ H fun x H1 => tl σ H1 fun l H2 => th σ H2 fun u H3 => r x l u H3 Q
/-- a[lo:hi], any a -/
theorem pe_slice {r : V → Option Int → Option Int → Hp → VK → Prop} (hr : SlR X r) (he : PE X e te) (hl : PO X lo tl) (hu : PO X hi th) : PE X (.Subscript e (.Slice lo hi none p2) pos) (tSl r te tl th) := by
  intro pins s σ H Q I h
  refine Subscript_ (thn (he pins s σ H _ I h) fun v s1 ⟨x, H1, I1, r1, q1⟩ => ?_)
  refine wpAny_Slice (thn (hl pins s1 σ H1 _ I1 q1) fun vl s2 ⟨l, H2, I2, pl, q2⟩ => thn (hu pins s2 σ H2 _ I2 q2) fun vu s3 ⟨u, H3, I3, pu, q3⟩ => ?_)
  rw [evalPart_none]
  refine wpAny_pure ?_
  have I4 : Inv X pins σ H3 { s3 with heap := s3.heap.push { cls := .type "slice", data := .fields #[vl, vu, .none] } } := I3.kept (t' := s3.toks) fun b ob q => Heap.get?_push_of_some _ q
  obtain ⟨T, id, hT, ht, hg⟩ := hr pins { s3 with heap := s3.heap.push { cls := .type "slice", data := .fields #[vl, vu, .none] } } σ H3 x v vl vu l u s3.heap.objs.size Q I4 r1 (Heap.IsSliceOf.new ..) pl pu q3
  show wpAny (model X.prog X.w) X.A (subscriptTail e (.Slice lo hi none p2) v (.ref s3.heap.objs.size)) (EP X pins σ Q) X.xe { s3 with heap := s3.heap.push { cls := .type "slice", data := .fields #[vl, vu, .none] } }
  exact tail_any (ops := [.ref s3.heap.objs.size, v]) ht hT hg (by with_unfolding_all rfl)

/-- the items of xs[lo:hi] -/
def cutV (xs : List V) (lo hi : Option Int) : List V := (xs.drop (HT.sIx xs.length 0 lo)).take (HT.sIx xs.length xs.length hi - HT.sIx xs.length 0 lo)
theorem cutV_length (xs : List V) (lo hi : Option Int) : (cutV xs lo hi).length ≤ xs.length := by
  unfold cutV
  rw [List.length_take, List.length_drop]
  omega
/-- t[lo:hi], not the whole of it (the whole would be t itself) -/
def rSlT (K : PySem.W.Frag) : V → Option Int → Option Int → Hp → VK → Prop := fun x lo hi H Q => ∃ a xs, x = .ref a ∧ SqT K H a xs ∧
  ¬ (HT.sIx xs.length 0 lo = 0 ∧ HT.sIx xs.length xs.length hi = xs.length) ∧ ∀ p, H p = none → Q (.ref p) (upd H p (.tup (cutV xs lo hi)))
theorem sl_tup : SlR X (rSlT X.K) := by
  intro pins s σ H x v vl vu lo hi sl Q I rx hs pl pu h
  obtain ⟨a, xs, rfl, hx, hw, q⟩ := h
  cases rx
  obtain ⟨its, r, ht, hz⟩ := I.tuple hx
  have hlen : its.toArray.size = xs.length := by rw [List.size_toArray]; exact r.length.symm
  refine ⟨"tuple", _, PyProof.Rows.slot_tuple_getitem.lookup, ht.typeIs, ?_⟩
  refine HT.getItem_tuple_cut ht hs pl pu (by rw [hlen]; exact hw) ?_ (by rw [hlen]; exact hz)
  rw [hlen]
  refine ⟨.ref s.heap.objs.size, _, I.laid (t' := s.toks) (o := .tup (cutV xs lo hi)) (fun b ob q => Heap.get?_push_of_some _ q) (Nat.le_refl _) ?_, rfl, q _ (I.hok.fresh (Nat.le_refl _))⟩
  exact ⟨Nat.le_trans (cutV_length xs lo hi) hz, _, (r.drop (HT.sIx xs.length 0 lo)).take (HT.sIx xs.length xs.length hi - HT.sIx xs.length 0 lo), IsTup.new _ _⟩

/-! ### t < u, t + u -/
def rLtT (K : PySem.W.Frag) : R2 := fun x y H Q => ∃ a b ns ms, x = .ref a ∧ y = .ref b ∧ SqT K H a (ns.map V.int) ∧ SqT K H b (ms.map V.int) ∧ Q (.bl (HT.lexLt ns ms)) H
theorem op_ltT (hu : X.A.units < cLine) : OpR X (compareOp .Lt) (rLtT X.K) := by
  intro pins s σ H x y v u Q I rx ry h
  obtain ⟨a, b, ns, ms, rfl, rfl, ha, hb, q⟩ := h
  cases rx
  cases ry
  obtain ⟨its, r1, p1, _⟩ := I.tuple ha
  obtain ⟨its2, r2, p2, _⟩ := I.tuple hb
  have i1 : IntsAre its.toArray.toList ns := intsAre_of r1
  have i2 : IntsAre its2.toArray.toList ms := intsAre_of r2
  exact HT.lt_tupInts p1 p2 i1 i2 hu ⟨.bl (HT.lexLt ns ms), H, I, rfl, q⟩
/-- t + u, t not empty: u empty gives t itself -/
def rCatT (K : PySem.W.Frag) : R2 := fun x y H Q => ∃ a b xs ys, x = .ref a ∧ y = .ref b ∧ SqT K H a xs ∧ SqT K H b ys ∧ xs ≠ [] ∧ xs.length + ys.length ≤ sizeLine ∧
  (ys = [] → Q (.ref a) H) ∧ (ys ≠ [] → ∀ p, H p = none → Q (.ref p) (upd H p (.tup (xs ++ ys))))
theorem Vals.nil_iff {xs : List V} {us : List Value} (r : Vals xs us) : us = [] ↔ xs = [] := by
  cases r with
  | nil => simp
  | cons _ _ => simp
theorem op_catT : OpR X (binaryOp .Add) (rCatT X.K) := by
  intro pins s σ H x y v u Q I rx ry h
  obtain ⟨a, b, xs, ys, rfl, rfl, ha, hb, hx, hz, q1, q2⟩ := h
  cases rx
  cases ry
  obtain ⟨its, r1, p1, _⟩ := I.tuple ha
  obtain ⟨its2, r2, p2, _⟩ := I.tuple hb
  refine HT.cat_tup p1 p2 (fun z => hx (r1.nil_iff.mp z)) (fun z => ⟨.ref a, H, I, rfl, q1 (r2.nil_iff.mp z)⟩) (fun z => ?_) (by rw [← r1.length, ← r2.length]; exact hz)
  refine ⟨.ref s.heap.objs.size, _, I.laid (t' := s.toks) (o := .tup (xs ++ ys)) (fun b ob q => Heap.get?_push_of_some _ q) (Nat.le_refl _) ?_, rfl, q2 (fun w => z (r2.nil_iff.mpr w)) _ (I.hok.fresh (Nat.le_refl _))⟩
  exact ⟨by rw [List.length_append]; exact hz, _, r1.append r2, IsTup.new _ _⟩
/-- tuple(t) -/
theorem call_tupleT : CallR X (.type "tuple") (fun xs H Q => ∃ a ys, xs = [.ref a] ∧ SqT X.K H a ys ∧ Q (.ref a) H) := by
  intro pins s σ H xs us Q I r h
  obtain ⟨a, ys, rfl, ha, q⟩ := h
  obtain ⟨u, rfl, ru⟩ := vals1 r
  cases ru
  obtain ⟨its, _, p1, _⟩ := I.tuple ha
  exact call_tuple_same (items := its.toArray) p1 ⟨.ref a, H, I, rfl, q⟩
end
end L2

namespace L2
open PySem PySem.Spec PyProof.Rows

/-! ### places -/
/-- the place that an index of any sign means -/
def ixN (n : Nat) (i : Int) : Option Nat := if 0 ≤ i then (if i < n then some i.toNat else none) else if -(n : Int) ≤ i then some (i + n).toNat else none
def atI {α : Type} (xs : List α) (i : Int) : Option α := (ixN xs.length i).bind fun j => xs[j]?
theorem ixN_seq {n : Nat} {i : Int} {j : Nat} (h : ixN n i = some j) : seqIndex? i n = some j ∧ j < n ∧ -(n : Int) ≤ i ∧ i < n := by
  unfold ixN at h
  by_cases h0 : 0 ≤ i
  · rw [if_pos h0] at h
    by_cases h1 : i < n
    · rw [if_pos h1] at h
      have e : i.toNat = j := Option.some.inj h
      exact ⟨by rw [seqIndex_of h0 h1, e], by omega, by omega, h1⟩
    · rw [if_neg h1] at h; cases h
  · rw [if_neg h0] at h
    by_cases h1 : -(n : Int) ≤ i
    · rw [if_pos h1] at h
      have e : (i + n).toNat = j := Option.some.inj h
      exact ⟨by rw [seqIndex_neg (by omega) h1, e], by omega, h1, by omega⟩
    · rw [if_neg h1] at h; cases h
theorem atI_get {α : Type} {xs : List α} {i : Int} {v : α} (h : atI xs i = some v) : ∃ j, seqIndex? i xs.length = some j ∧ xs[j]? = some v ∧ j < xs.length ∧ -(xs.length : Int) ≤ i ∧ i < xs.length := by
  unfold atI at h
  cases e : ixN xs.length i with
  | none => rw [e] at h; cases h
  | some j =>
    rw [e] at h
    obtain ⟨h1, h2, h3, h4⟩ := ixN_seq e
    exact ⟨j, h1, h, h2, h3, h4⟩
theorem atI_nat {α : Type} {xs : List α} {j : Nat} {v : α} (h : xs[j]? = some v) : atI xs (j : Int) = some v := by
  have hj : j < xs.length := (List.getElem?_eq_some_iff.mp h).1
  have e : ixN xs.length (j : Int) = some j := by
    unfold ixN
    rw [if_pos (by omega), if_pos (by omega)]; simp
  unfold atI; rw [e]; exact h
theorem atI_last {α : Type} (xs : List α) (v : α) : atI (xs ++ [v]) (-1) = some v := by
  have hl : (xs ++ [v]).length = xs.length + 1 := by simp
  have e : ixN (xs ++ [v]).length (-1) = some xs.length := by
    unfold ixN
    rw [hl, if_neg (by decide), if_pos (by omega)]
    congr 1
    omega
  unfold atI
  rw [e]
  show (xs ++ [v])[xs.length]? = some v
  simp

/-! ### what may be subscripted -/
/-- what stands as an index of a plain subscript -/
def PlainIx (b : Expr) : Prop := ∀ o i, subscripted b false o i = operate [o, i] (getItem o i)
/-- a subscript by values -/
def IxR (X : Cx) (r : R2) : Prop :=
  ∀ (value slice : Expr) (pins : List (Addr × Obj)) (s : Shared) (σ : St) (H : Hp) (x y : V) (v u : Value) (Q : VK), Inv X pins σ H s → RelV x v → RelV y u → r x y H Q →
    subscripted slice false v u = operate [v, u] (getItem v u) → wpAny (model X.prog X.w) X.A (subscriptTail value slice v u) (EP X pins σ Q) X.xe s
/-- a call of a builtin's method by values: the receiver, the arguments -/
def MtR (X : Cx) (id : String) (r : V → List V → Hp → VK → Prop) : Prop :=
  ∀ (pins : List (Addr × Obj)) (s : Shared) (σ : St) (H : Hp) (x : V) (xs : List V) (v : Value) (us : List Value) (Q : VK), Inv X pins σ H s → RelV x v → Vals xs us → r x xs H Q →
    wpAny (model X.prog X.w) X.A (call (.builtin id) (v :: us)) (EP X pins σ Q) X.xe s
section
variable {X : Cx} {a b : Expr} {ta tb : TE} {pos : Pos}
theorem IxR.or {r r' : R2} (h : IxR X r) (h' : IxR X r') : IxR X (fun x y H Q => r x y H Q ∨ r' x y H Q) := by
  intro value slice pins s σ H x y v u Q I rx ry q hs
  rcases q with q | q
  · exact h value slice pins s σ H x y v u Q I rx ry q hs
  · exact h' value slice pins s σ H x y v u Q I rx ry q hs
theorem MtR.or {id : String} {r r' : V → List V → Hp → VK → Prop} (h : MtR X id r) (h' : MtR X id r') : MtR X id (fun x xs H Q => r x xs H Q ∨ r' x xs H Q) := by
  intro pins s σ H x xs v us Q I rx rs q
  rcases q with q | q
  · exact h pins s σ H x xs v us Q I rx rs q
  · exact h' pins s σ H x xs v us Q I rx rs q
/-- a[b] -/
theorem pe_ix {r : R2} (hr : IxR X r) (ha : PE X a ta) (hb : PE X b tb) (hs : PlainIx b) : PE X (.Subscript a b pos) (tOp r ta tb) := by
  intro pins s σ H Q I h
  exact Subscript_ (binT ha hb I h fun v u s2 x y H2 I2 rx ry q => hr a b pins s2 σ H2 x y v u Q I2 rx ry q (hs _ _))

def rIxL (K : PySem.W.Frag) : R2 := fun x y H Q => ∃ p xs i v, x = .ref p ∧ y = .int i ∧ SqL K H p xs ∧ atI xs i = some v ∧ Q v H
def rIxT (K : PySem.W.Frag) : R2 := fun x y H Q => ∃ p xs i v, x = .ref p ∧ y = .int i ∧ SqT K H p xs ∧ atI xs i = some v ∧ Q v H
def rIxS : R2 := fun x y H Q => ∃ z i c, x = .str z ∧ y = .int i ∧ z.length ≤ sizeLine ∧ atI z.cps.toList i = some c ∧ Q (.str ⟨#[c]⟩) H
theorem ix_list : IxR X (rIxL X.K) := by
  intro value slice pins s σ H x y v u Q I rx ry h hs
  obtain ⟨p, xs, i, z, rfl, rfl, hq, he, q⟩ := h
  cases rx
  obtain ⟨t, rfl⟩ := ry
  obtain ⟨its, r, pl, hz⟩ := I.list hq
  obtain ⟨j, h1, h2, h3, h4, h5⟩ := atI_get he
  obtain ⟨w, ew, rw'⟩ := r.get h2
  have hl := r.length
  have hn := line63
  have fin : EP X pins σ Q w s := ⟨z, H, I, rw', q⟩
  by_cases h0 : 0 ≤ i
  · have hj : i.toNat = j := by
      rw [seqIndex_of h0 h5] at h1
      exact Option.some.inj h1
    exact item_listR pl.isList h0 (by omega) (by rw [hj]; simpa using ew) fin hs
  · have hj : (i + (its.toArray.size : Int)).toNat = j := by
      rw [seqIndex_neg (by omega) h4] at h1
      rw [List.size_toArray, ← hl]
      exact Option.some.inj h1
    exact subscriptTail_builtinR (x := w) pl.isList.typeIs slot_list_getitem.lookup
      (wpAny_getItem_list_neg (Q := fun r s' => r = w ∧ EP X pins σ Q r s') pl.isList (by omega) (by rw [List.size_toArray] <;> omega) (by omega) (by rw [hj]; simpa using ew) ⟨rfl, fin⟩) hs
theorem ix_tup : IxR X (rIxT X.K) := by
  intro value slice pins s σ H x y v u Q I rx ry h hs
  obtain ⟨p, xs, i, z, rfl, rfl, hq, he, q⟩ := h
  cases rx
  obtain ⟨t, rfl⟩ := ry
  obtain ⟨its, r, pl, hz⟩ := I.tuple hq
  obtain ⟨j, h1, h2, h3, h4, h5⟩ := atI_get he
  obtain ⟨w, ew, rw'⟩ := r.get h2
  have hl := r.length
  have hn := line63
  have fin : EP X pins σ Q w s := ⟨z, H, I, rw', q⟩
  exact subscriptTail_builtinR (x := w) pl.typeIs slot_tuple_getitem.lookup
    (getItem_tuple (j := j) (Q := fun r s' => r = w ∧ EP X pins σ Q r s') pl (by omega) (by omega) (by rw [List.size_toArray, ← hl]; exact h1) (by simpa using ew) ⟨rfl, fin⟩) hs
theorem ix_str : IxR X rIxS := by
  intro value slice pins s σ H x y v u Q I rx ry h hs
  obtain ⟨z, i, c, rfl, rfl, hz, he, q⟩ := h
  obtain ⟨t, rfl⟩ := rx
  obtain ⟨t', rfl⟩ := ry
  obtain ⟨j, h1, h2, h3, h4, h5⟩ := atI_get he
  have hl : z.cps.toList.length = z.length := by simp [Str.length]
  rw [hl] at h1 h4 h5
  have hn := line63
  exact tail_any (typeIs_str s z t) slot_str_getitem.lookup (getItem_str (c := c) (by
    have e1 : decide (i < -(2 ^ 63 : Int)) = false := decide_eq_false (by omega)
    have e2 : decide (i ≥ 2 ^ 63) = false := decide_eq_false (by omega)
    rw [e1, e2, Bool.or_false]) (by rw [h1]; simpa using h2) ⟨.str ⟨#[c]⟩, H, I.tok _, ⟨_, rfl⟩, q⟩) hs
/-- list, tuple or str -/
def rIx (K : PySem.W.Frag) : R2 := fun x y H Q => rIxL K x y H Q ∨ rIxT K x y H Q ∨ rIxS x y H Q
theorem ix_seq : IxR X (rIx X.K) := ix_list.or (ix_tup.or ix_str)

/-! ### xs[i] = v, any sign -/
/-- the list's object behind a store -/
theorem mapSeq_set (its : List Value) (n j : Nat) (u : Value) : Obj.mapSeq (·.setIfInBounds j u) { cls := .type "list", data := .seq its.toArray n } = { cls := .type "list", data := .seq (its.set j u).toArray n } := by
  simp [Obj.mapSeq]
theorem Inv.lst {pins : List (Addr × Obj)} {σ : St} {H : Hp} {s : Shared} {p : Addr} {xs : List V} (I : Inv X pins σ H s) (h : H p = some (.lst xs)) :
    ∃ (its : List Value) (n : Nat), Vals xs its ∧ s.heap.get? p = some { cls := .type "list", data := .seq its.toArray n } ∧ xs.length ≤ sizeLine := by
  obtain ⟨z, its, n, r, e⟩ := I.hok p _ h
  exact ⟨its, n, r, e, z⟩
/-- the list at p is written by an update of its object -/
theorem Inv.lstUpd {pins : List (Addr × Obj)} {σ : St} {H : Hp} {s : Shared} {p : Addr} {xs ys : List V} {its its' : List Value} {n n' : Nat} {f : Obj → Obj} (I : Inv X pins σ H s) (h : H p = some (.lst xs))
    (ho : s.heap.get? p = some { cls := .type "list", data := .seq its.toArray n }) (hf : f { cls := .type "list", data := .seq its.toArray n } = { cls := .type "list", data := .seq its'.toArray n' }) (r : Vals ys its') (hz : ys.length ≤ sizeLine) (t : Nat) :
    Inv X pins σ (upd H p (.lst ys)) { s with heap := s.heap.update p f, toks := t } := by
  have e : (s.heap.update p f).get? p = some { cls := .type "list", data := .seq its'.toArray n' } := by
    rw [Heap.get?_update_self f ho (by rw [hf] <;> rfl), hf]
  refine I.write (x := p) (e := p) (by rw [h]; trivial) (.inl rfl) (fun b u hb q => (Heap.get?_update_other _ _ (Ne.symm hb)).trans q) ⟨_, e⟩ ?_
  exact ⟨hz, its', n', r, e⟩
def rSetL : V → V → V → Hp → (Hp → Prop) → Prop := fun o i v H Q => ∃ p xs k j, o = .ref p ∧ i = .int k ∧ H p = some (.lst xs) ∧ ixN xs.length k = some j ∧ Q (upd H p (.lst (xs.set j v)))
theorem set_list : PSet X rSetL := by
  intro pins s σ H o i v ov iv u Q I ro ri rv h
  obtain ⟨p, xs, k, j, rfl, rfl, hp, hj, q⟩ := h
  cases ro
  obtain ⟨t, rfl⟩ := ri
  obtain ⟨its, n, r, ho, hz⟩ := I.lst hp
  obtain ⟨h1, h2, h3, h4⟩ := ixN_seq hj
  have hl := r.length
  have hn := line63
  have I' : Inv X pins σ (upd H p (.lst (xs.set j v))) { s with heap := s.heap.update p (Obj.mapSeq (·.setIfInBounds j u)) } :=
    I.lstUpd hp ho (mapSeq_set its n j u) (r.set rv j) (by rw [List.length_set]; exact hz) s.toks
  by_cases h0 : 0 ≤ k
  · have hk : k.toNat = j := by
      rw [seqIndex_of h0 h4] at h1
      exact Option.some.inj h1
    exact PySem.W.ki_setAt ho h0 (by omega) (by rw [List.size_toArray, ← hl]; exact h4) (by rw [hk]; exact ⟨_, I', q⟩)
  · have hk : (k + (its.toArray.size : Int)).toNat = j := by
      rw [seqIndex_neg (by omega) h3] at h1
      rw [List.size_toArray, ← hl]
      exact Option.some.inj h1
    exact PySem.W.ki_setBack ho (by omega) (by rw [List.size_toArray, ← hl]; exact h3) (by omega) (by rw [hk]; exact ⟨_, I', q⟩)

/-! ### slices -/
theorem slice_bounds (lo hi : Option Int) (n : Nat) : (sliceBounds lo hi none n).1 = ((HT.sIx n 0 lo : Nat) : Int) ∧ (sliceBounds lo hi none n).2.1 = ((HT.sIx n n hi : Nat) : Int) ∧ (sliceBounds lo hi none n).2.2 = 1 := by
  refine ⟨?_, ?_, rfl⟩
  · cases lo with
    | none => simp [sliceBounds, HT.sIx]
    | some i =>
      simp only [sliceBounds, HT.sIx, Option.getD_none, show (1 : Int) > 0 by decide, if_true]
      by_cases h : i < 0
      · simp only [h, if_true] <;> omega
      · simp only [h, if_false] <;> omega
  · cases hi with
    | none => simp [sliceBounds, HT.sIx]
    | some i =>
      simp only [sliceBounds, HT.sIx, Option.getD_none, show (1 : Int) > 0 by decide, if_true]
      by_cases h : i < 0
      · simp only [h, if_true] <;> omega
      · simp only [h, if_false] <;> omega
theorem slicePick_cut (its : List Value) (lo hi : Option Int) : slicePick its.toArray lo hi none = ((its.drop (HT.sIx its.length 0 lo)).take (HT.sIx its.length its.length hi - HT.sIx its.length 0 lo)).toArray := by
  obtain ⟨h1, h2, h3⟩ := slice_bounds lo hi its.toArray.size
  unfold slicePick
  rw [h1, h2, h3]
  simp only [sliceRange_one, pick_run, List.size_toArray] <;> rfl
/-- xs[lo:hi] of a list: a new list -/
def rSlL (K : PySem.W.Frag) : V → Option Int → Option Int → Hp → VK → Prop := fun x lo hi H Q => ∃ a xs, x = .ref a ∧ SqL K H a xs ∧ ∀ p, H p = none → Q (.ref p) (upd H p (.lst (cutV xs lo hi)))
theorem sl_list : SlR X (rSlL X.K) := by
  intro pins s σ H x v vl vu lo hi sl Q I rx hs pl pu h
  obtain ⟨a, xs, rfl, hx, q⟩ := h
  cases rx
  obtain ⟨its, r, ht, hz⟩ := I.list hx
  have hlen := r.length
  refine ⟨"list", _, slot_list_getitem.lookup, ht.isList.typeIs, ?_⟩
  refine wpAny_getItem_list_slice ht.isList hs pl pu .none (by simp) ?_ (by rw [List.size_toArray] <;> omega)
  rw [slicePick_cut, ← hlen]
  refine ⟨.ref s.heap.objs.size, _, I.laid (t' := s.toks) (o := .lst (cutV xs lo hi)) (fun b ob q => Heap.get?_push_of_some _ q) (Nat.le_refl _) ?_, rfl, q _ (I.hok.fresh (Nat.le_refl _))⟩
  exact ⟨Nat.le_trans (cutV_length xs lo hi) hz, _, 0, (r.drop (HT.sIx xs.length 0 lo)).take (HT.sIx xs.length xs.length hi - HT.sIx xs.length 0 lo), Heap.get?_push_size _ rfl⟩

/-! ### in, not in: flat items -/
def flatV : V → Bool
  | .non => true
  | .bl _ => true
  | .int _ => true
  | .str _ => true
  | _ => false
/-- == of flat values -/
def eqV : V → V → Bool
  | .non, .non => true
  | .bl a, .bl b => a == b
  | .bl a, .int b => (if a then 1 else 0) == b
  | .int a, .bl b => a == (if b then 1 else 0)
  | .int a, .int b => a == b
  | .str a, .str b => a == b
  | _, _ => false
theorem eqAt_V {A : Around} {s : Shared} {y x : V} {u v : Value} (ry : RelV y u) (rx : RelV x v) (fy : flatV y = true) (fx : flatV x = true) : SeqAt.EqAt A s u v (eqV y x) := by
  cases y with
  | non =>
    cases ry
    cases x with
    | non => cases rx; exact SeqAt.EqAt.same _
    | bl b => cases rx; exact SeqAt.EqAt.none_bool b
    | int b => obtain ⟨t, rfl⟩ := rx; exact SeqAt.EqAt.none_int b t
    | str b => obtain ⟨t, rfl⟩ := rx; exact SeqAt.EqAt.none_str b t
    | _ => exact absurd (show false = true from fx) Bool.false_ne_true
  | bl a =>
    cases ry
    cases x with
    | non => cases rx; exact SeqAt.EqAt.bool_none a
    | bl b => cases rx; exact SeqAt.EqAt.bool_bool a b
    | int b => obtain ⟨t, rfl⟩ := rx; exact SeqAt.EqAt.bool_int a b t
    | str b => obtain ⟨t, rfl⟩ := rx; exact SeqAt.EqAt.bool_str a b t
    | _ => exact absurd (show false = true from fx) Bool.false_ne_true
  | int a =>
    obtain ⟨t', rfl⟩ := ry
    cases x with
    | non => cases rx; exact SeqAt.EqAt.int_none a t'
    | bl b => cases rx; exact SeqAt.EqAt.int_bool a t' b
    | int b => obtain ⟨t, rfl⟩ := rx; exact SeqAt.EqAt.int_int a t' b t
    | str b => obtain ⟨t, rfl⟩ := rx; exact SeqAt.EqAt.int_str a t' b t
    | _ => exact absurd (show false = true from fx) Bool.false_ne_true
  | str a =>
    obtain ⟨t', rfl⟩ := ry
    cases x with
    | non => cases rx; exact SeqAt.EqAt.str_none a t'
    | bl b => cases rx; exact SeqAt.EqAt.str_bool a t' b
    | int b => obtain ⟨t, rfl⟩ := rx; exact SeqAt.EqAt.str_int a t' b t
    | str b => obtain ⟨t, rfl⟩ := rx; exact SeqAt.EqAt.str_str a t' b t
    | _ => exact absurd (show false = true from fx) Bool.false_ne_true
  | _ => exact absurd (show false = true from fy) Bool.false_ne_true
/-- the items' answers, read off the values (a value's own answer does not lean on its token) -/
def eqU (x : V) (u : Value) : Bool := match u with
  | .none => eqV .non x
  | .bool b => eqV (.bl b) x
  | .int i _ => eqV (.int i) x
  | .str z _ => eqV (.str z) x
  | _ => false
theorem eqU_of {x y : V} {u : Value} (r : RelV y u) (f : flatV y = true) : eqU x u = eqV y x := by
  cases y with
  | non => cases r; rfl
  | bl b => cases r; rfl
  | int i => obtain ⟨t, rfl⟩ := r; rfl
  | str z => obtain ⟨t, rfl⟩ := r; rfl
  | _ => exact absurd (show false = true from f) Bool.false_ne_true
theorem any_eqU {x : V} : ∀ {xs : List V} {us : List Value}, Vals xs us → xs.all flatV = true → us.any (eqU x) = xs.any fun y => eqV y x
  | _, _, .nil, _ => rfl
  | y :: xs, u :: us, .cons r t, f => by
    rw [List.all_cons, Bool.and_eq_true] at f
    rw [List.any_cons, List.any_cons, eqU_of r f.1, any_eqU t f.2]
theorem mem_eqAt {A : Around} {s : Shared} {x : V} {v : Value} (rx : RelV x v) (fx : flatV x = true) : ∀ {xs : List V} {us : List Value}, Vals xs us → xs.all flatV = true → ∀ u ∈ us, SeqAt.EqAt A s u v (eqU x u)
  | _, _, .nil, _ => fun u hu => by cases hu
  | y :: xs, u :: us, .cons r t, f => fun u' hu => by
    rw [List.all_cons, Bool.and_eq_true] at f
    rcases List.mem_cons.mp hu with rfl | hu
    · rw [eqU_of r f.1]; exact eqAt_V r rx f.1 fx
    · exact mem_eqAt rx fx t f.2 u' hu
def inV (x : V) (xs : List V) : Bool := xs.any fun y => eqV y x
/-- x in a list or tuple of flat items -/
def rIn (K : PySem.W.Frag) (neg : Bool) : R2 := fun x y H Q => ∃ p xs, y = .ref p ∧ (SqL K H p xs ∨ SqT K H p xs) ∧ flatV x = true ∧ xs.all flatV = true ∧ Q (.bl (if neg then !inV x xs else inV x xs)) H
theorem op_in_seq : OpR X (compareOp .In) (rIn X.K false) := by
  intro pins s σ H x y v u Q I rx ry h
  obtain ⟨p, xs, rfl, hq, fx, fs, q⟩ := h
  cases ry
  rcases hq with hq | hq
  · obtain ⟨its, r, pl, hz⟩ := I.list hq
    refine SeqAt.in_listAt (eqU x) pl.isList (fun w hw => mem_eqAt rx fx r fs w (by simpa using hw)) ⟨.bl _, H, I, rfl, ?_⟩
    rw [show its.toArray.any (eqU x) = its.any (eqU x) by simp, any_eqU r fs]
    exact q
  · obtain ⟨its, r, pl, hz⟩ := I.tuple hq
    refine SeqAt.in_tupleAt (eqU x) pl (fun w hw => mem_eqAt rx fx r fs w (by simpa using hw)) ⟨.bl _, H, I, rfl, ?_⟩
    rw [show its.toArray.any (eqU x) = its.any (eqU x) by simp, any_eqU r fs]
    exact q
theorem op_notIn_seq : OpR X (compareOp .NotIn) (rIn X.K true) := by
  intro pins s σ H x y v u Q I rx ry h
  obtain ⟨p, xs, rfl, hq, fx, fs, q⟩ := h
  cases ry
  rcases hq with hq | hq
  · obtain ⟨its, r, pl, hz⟩ := I.list hq
    refine SeqAt.notIn_listAt (eqU x) pl.isList (fun w hw => mem_eqAt rx fx r fs w (by simpa using hw)) ⟨.bl _, H, I, rfl, ?_⟩
    rw [show its.toArray.any (eqU x) = its.any (eqU x) by simp, any_eqU r fs]
    exact q
  · obtain ⟨its, r, pl, hz⟩ := I.tuple hq
    refine SeqAt.notIn_tupleAt (eqU x) pl (fun w hw => mem_eqAt rx fx r fs w (by simpa using hw)) ⟨.bl _, H, I, rfl, ?_⟩
    rw [show its.toArray.any (eqU x) = its.any (eqU x) by simp, any_eqU r fs]
    exact q
theorem op_notIn_str : OpR X (compareOp .NotIn) (fun x y H Q => ∃ i j, x = .str i ∧ y = .str j ∧ Q (.bl (!(!(Builtin.Str.occurrences j i 0 j.length 1).isEmpty))) H) := by
  intro pins s σ H x y v u Q I rx ry h
  obtain ⟨i, j, rfl, rfl, q⟩ := h
  obtain ⟨t, rfl⟩ := rx
  obtain ⟨t', rfl⟩ := ry
  exact notIn_str ⟨.bl _, H, I, rfl, q⟩

/-! ### len, list(x), tuple(x) of any list or tuple that is read -/
theorem call_len_seq : CallR X (.builtin "len") (fun xs H Q => ∃ p ys, xs = [.ref p] ∧ (SqL X.K H p ys ∨ SqT X.K H p ys) ∧ Q (.int ys.length) H) := by
  intro pins s σ H xs us Q I r h
  obtain ⟨p, ys, rfl, hq, q⟩ := h
  obtain ⟨u, rfl, rx⟩ := vals1 r
  cases rx
  have hn := line63
  rcases hq with hq | hq
  · obtain ⟨its, r', pl, hz⟩ := I.list hq
    have hlen := r'.length
    exact Calls.call_len_list pl.isList (by simp only [List.size_toArray] <;> omega) ⟨.int ys.length, H, I.tok _, ⟨s.toks + 1, by rw [List.size_toArray, hlen]⟩, q⟩
  · obtain ⟨its, r', pl, hz⟩ := I.tuple hq
    have hlen := r'.length
    exact len_tuple pl (by simp only [List.size_toArray] <;> omega) ⟨.int ys.length, H, I.tok _, ⟨s.toks + 1, by rw [List.size_toArray, hlen]⟩, q⟩
theorem call_len_str : CallR X (.builtin "len") (fun xs H Q => ∃ z, xs = [.str z] ∧ z.length ≤ sizeLine ∧ Q (.int z.length) H) := by
  intro pins s σ H xs us Q I r h
  obtain ⟨z, rfl, hz, q⟩ := h
  obtain ⟨u, rfl, t, rfl⟩ := vals1 r
  have hn := line63
  exact len_str (by omega) ⟨.int z.length, H, I.tok _, ⟨_, rfl⟩, q⟩
theorem CallR.or {f : Value} {r r' : List V → Hp → VK → Prop} (h : CallR X f r) (h' : CallR X f r') : CallR X f (fun xs H Q => r xs H Q ∨ r' xs H Q) := by
  intro pins s σ H xs us Q I rs q
  rcases q with q | q
  · exact h pins s σ H xs us Q I rs q
  · exact h' pins s σ H xs us Q I rs q
theorem call_list_of : CallR X (.type "list") (fun xs H Q => ∃ p ys, xs = [.ref p] ∧ (SqL X.K H p ys ∨ SqT X.K H p ys) ∧ ∀ l, H l = none → Q (.ref l) (upd H l (.lst ys))) := by
  intro pins s σ H xs us Q I r h
  obtain ⟨p, ys, rfl, hq, q⟩ := h
  obtain ⟨u, rfl, rx⟩ := vals1 r
  cases rx
  have fin : ∀ (its : List Value), Vals ys its → ys.length ≤ sizeLine → ∀ (h' : Heap) (c' : Nat), (∀ b o', s.heap.get? b = some o' → h'.get? b = some o') →
      h'.get? s.heap.objs.size = some { cls := .type "list", dict := none, data := .seq its.toArray c', slots := #[] } → EP X pins σ Q (.ref s.heap.objs.size) { s with heap := h' } := fun its r' hz h' c' kp e =>
    ⟨.ref s.heap.objs.size, _, I.laid (t' := s.toks) kp (Nat.le_refl _) (show ObjOk X.prog X.w _ h' _ (.lst ys) from ⟨hz, its, c', r', e⟩), rfl, q _ (I.hok.fresh (Nat.le_refl _))⟩
  rcases hq with hq | hq
  · obtain ⟨its, r', pl, hz⟩ := I.list hq
    have hlen := r'.length
    obtain ⟨o, ho, hc, n, hd⟩ := pl.isList
    exact call_list_seq p (.inl rfl) ho hc hd (fun h' c' kp e => fin its r' hz h' c' kp e) (by simp only [List.size_toArray] <;> omega)
  · obtain ⟨its, r', pl, hz⟩ := I.tuple hq
    have hlen := r'.length
    obtain ⟨o, ho, hc, n, hd⟩ := pl
    exact call_list_seq p (.inr rfl) ho hc hd (fun h' c' kp e => fin its r' hz h' c' kp e) (by simp only [List.size_toArray] <;> omega)
theorem call_tuple_of : CallR X (.type "tuple") (fun xs H Q => ∃ p ys, xs = [.ref p] ∧ ((SqL X.K H p ys ∧ ∀ l, H l = none → Q (.ref l) (upd H l (.tup ys))) ∨ (SqT X.K H p ys ∧ Q (.ref p) H))) := by
  intro pins s σ H xs us Q I r h
  obtain ⟨p, ys, rfl, h⟩ := h
  obtain ⟨u, rfl, rx⟩ := vals1 r
  cases rx
  rcases h with ⟨hq, q⟩ | ⟨hq, q⟩
  · obtain ⟨its, r', pl, hz⟩ := I.list hq
    have hlen := r'.length
    refine call_tuple_list pl.isList (fun h' kp => ?_) (by simp only [List.size_toArray] <;> omega)
    have I1 : Inv X pins σ H { s with heap := h' } := I.kept (t' := s.toks) kp
    have I2 : Inv X pins σ (upd H h'.objs.size (.tup ys)) { s with heap := h'.push { cls := .type "tuple", data := .seq its.toArray } } :=
      I1.laid (t' := s.toks) (fun b o e => Heap.get?_push_of_some _ e) (Nat.le_refl _) (show ObjOk X.prog X.w _ _ _ (.tup ys) from ⟨hz, its, r', IsTup.new _ _⟩)
    exact ⟨.ref h'.objs.size, _, I2, rfl, q _ (I1.hok.fresh (Nat.le_refl _))⟩
  · obtain ⟨its, r', pl, hz⟩ := I.tuple hq
    exact call_tuple_same pl ⟨.ref p, H, I, rfl, q⟩

/-! ### the call of a builtin's method: o.m(..) -/
/-- the value is of that builtin type -/
def tyV (K : PySem.W.Frag) (T : String) (x : V) (H : Hp) : Prop := match x with
  | .str _ => T = "str"
  | .int _ => T = "int"
  | .ref p => (T = "list" ∧ ∃ xs, SqL K H p xs) ∨ (T = "tuple" ∧ ∃ o, K.lookup p = some o ∧ o.cls = .type "tuple" ∧ o.dict = none) ∨
      (T = "dict" ∧ ((∃ kvs, H p = some (.dK kvs)) ∨ ∃ kvs, H p = some (.dT kvs))) ∨ (T = "set" ∧ ∃ S n, H p = some (.set S n))
  | _ => False
theorem tyV_is {pins : List (Addr × Obj)} {σ : St} {H : Hp} {s : Shared} {T : String} {x : V} {v : Value} (I : Inv X pins σ H s) (r : RelV x v) (ty : tyV X.K T x H) :
    s.TypeIs v T ∧ ∀ a, v = .ref a → ∃ ob, s.heap.get? a = some ob ∧ ob.dict = none := by
  cases x with
  | str z =>
    obtain ⟨t, rfl⟩ := r
    cases (show T = "str" from ty)
    exact ⟨typeIs_str s z t, fun _ e => nomatch e⟩
  | int i =>
    obtain ⟨t, rfl⟩ := r
    cases (show T = "int" from ty)
    exact ⟨typeIs_int s i t, fun _ e => nomatch e⟩
  | ref p =>
    cases r
    rcases ty with ⟨rfl, xs, hq⟩ | ⟨rfl, o, hk, hc, hd⟩ | ⟨rfl, hk⟩ | ⟨rfl, S, n, hk⟩
    · obtain ⟨its, _, pl, _⟩ := I.list hq
      refine ⟨pl.isList.typeIs, fun a e => ?_⟩
      cases e
      obtain ⟨o, n, e, c, hd, _⟩ := pl
      exact ⟨o, e, hd⟩
    · refine ⟨⟨o, I.kIn p o hk, hc⟩, fun a e => ?_⟩
      cases e
      exact ⟨o, I.kIn _ o hk, hd⟩
    · have z : ∃ o, s.heap.get? p = some o ∧ o.ExactDict := by
        rcases hk with ⟨kvs, hk⟩ | ⟨kvs, hk⟩
        · obtain ⟨_, _, _, _, o, _, _, e, ex, _⟩ := I.hok p _ hk
          exact ⟨o, e, ex⟩
        · obtain ⟨_, _, _, _, o, _, _, e, ex, _⟩ := I.hok p _ hk
          exact ⟨o, e, ex⟩
      obtain ⟨o, e, ex⟩ := z
      refine ⟨⟨o, e, ex.1⟩, fun a e2 => ?_⟩
      cases e2
      exact ⟨o, e, ex.2.1⟩
    · obtain ⟨o, _, _, _, e, ex, _⟩ := I.hok p _ hk
      refine ⟨⟨o, e, ex.1⟩, fun a e2 => ?_⟩
      cases e2
      exact ⟨o, e, ex.2.1⟩
  | _ => exact False.elim ty
def tBM0 (K : PySem.W.Frag) (T : String) (r : V → List V → Hp → VK → Prop) (to : TE) : TE := fun σ H Q => to σ H fun x H1 => tyV K T x H1 ∧ r x [] H1 Q
def tBM (K : PySem.W.Frag) (T : String) (r : V → List V → Hp → VK → Prop) (to : TE) (t : TA) : TE := fun σ H Q => to σ H fun x H1 => tyV K T x H1 ∧ t σ H1 fun xs H2 => r x xs H2 Q
variable {o e : Expr} {es : List Expr} {to : TE} {t : TA} {name : Str} {apos cpos : Pos} {T id : String} {r : V → List V → Hp → VK → Prop}
theorem pe_bm0 (pa : PlainAttrs T) (slot : Slot T name id) (hty : typeOf (.builtin id) = pure (.type "method_descriptor")) (hm : MtR X id r) (ho : PE X o to)
    (hbase : attributeBase o name X.env (eval o X.env) = eval o X.env := by rfl) (hline : (apos.endLine == cpos.line) = true := by rfl) : PE X (.Call (.Attribute o name apos) [] [] cpos) (tBM0 X.K T r to) := by
  intro pins s σ H Q I h
  refine wpAny_Call_method0_late hbase hline (thn (ho pins s σ H _ I h) fun v s1 ⟨x, H1, I1, r1, ty, q1⟩ => ?_)
  obtain ⟨h1, h2⟩ := tyV_is I1 r1 ty
  exact ⟨T, id, pa, slot, hty, h1, h2, Calls.callWith_builtin rfl (PySem.evalArgs_none (hm pins s1 σ H1 x [] v [] Q I1 r1 .nil q1))⟩
theorem pe_bm (pa : PlainAttrs T) (slot : Slot T name id) (hty : typeOf (.builtin id) = pure (.type "method_descriptor")) (hm : MtR X id r) (ho : PE X o to) (ha : PA X (e :: es) t)
    (hbase : attributeBase o name X.env (eval o X.env) = eval o X.env := by rfl)
    (hfew : ((backTo cpos (starEach (e :: es) X.env)).all (fun x => !x.1) && (backToKw cpos (keywordEach [] X.env)).all (fun x => x.1.isSome)
      && decide ((e :: es).length + ([] : List Keyword).length + (if ([] : List Keyword).isEmpty then 0 else 1) < 30)) = true := by rfl)
    (hline : (apos.endLine == cpos.line) = true := by rfl) (hs : starEach (e :: es) X.env = (false, eval e X.env) :: starEach es X.env := by rfl) (hplain : (backTo cpos (starEach es X.env)).any (·.1) = false := by rfl) :
    PE X (.Call (.Attribute o name apos) (e :: es) [] cpos) (tBM X.K T r to t) := by
  intro pins s σ H Q I h
  refine wpAny_Call_method_late hbase hfew hline rfl (thn (ho pins s σ H _ I h) fun v s1 ⟨x, H1, I1, r1, ty, q1⟩ => ?_)
  obtain ⟨h1, h2⟩ := tyV_is I1 r1 ty
  refine ⟨T, id, pa, slot, hty, h1, h2, ?_⟩
  have hA := ha cpos pins s1 σ H1 _ I1 q1
  rw [hs] at hA ⊢
  refine Calls.callWith_builtin (by show (false || (backTo cpos (starEach es X.env)).any (·.1)) = false; rw [hplain] <;> rfl) (Calls.evalArgs_plain ?_)
  exact thn hA fun us s2 ⟨vs, H2, I2, r2, q2⟩ => hm pins s2 σ H2 x vs v us Q I2 r1 r2 q2
/- xs.append(e), list.index on a module's tuple .. are MtR facts of 06m -/
end
end L2

namespace L2
open PySem PySem.Spec PyProof.Rows

def MtM (X : Cx) (id : String) (r : V → List V → Hp → VK → Prop) : Prop :=
  ∀ (pins : List (Addr × Obj)) (s : Shared) (σ : St) (H : Hp) (x : V) (xs : List V) (v : Value) (us : List Value) (Q : VK), Inv X pins σ H s → RelV x v → Vals xs us → r x xs H Q →
    wpAny (model X.prog X.w) X.A (call (.builtin id) (v :: us)) (EP X pins σ Q) X.xe s

/-! ### lists of values -/
theorem Vals.one : ∀ {x : V} {us : List Value}, Vals [x] us → ∃ u, us = [u] ∧ RelV x u
  | _, _, .cons r .nil => ⟨_, rfl, r⟩
theorem Vals.two : ∀ {x y : V} {us : List Value}, Vals [x, y] us → ∃ u v, us = [u, v] ∧ RelV x u ∧ RelV y v
  | _, _, _, .cons r (.cons q .nil) => ⟨_, _, rfl, r, q⟩
theorem Vals.zero : ∀ {us : List Value}, Vals [] us → us = []
  | _, .nil => rfl
theorem Vals.dropLast {xs : List V} {us : List Value} (h : Vals xs us) : Vals xs.dropLast us.dropLast := by
  induction h with
  | nil => exact .nil
  | cons r t ih =>
    cases t with
    | nil => exact .nil
    | cons q t' => exact .cons r ih
theorem Vals.eraseIdx : ∀ {xs : List V} {us : List Value} (i : Nat), Vals xs us → Vals (xs.eraseIdx i) (us.eraseIdx i)
  | _, _, _, .nil => .nil
  | _, _, 0, .cons _ t => t
  | _, _, i + 1, .cons r t => .cons r (Vals.eraseIdx i t)
theorem Vals.reverse {xs : List V} {us : List Value} (h : Vals xs us) : Vals xs.reverse us.reverse := by
  induction h with
  | nil => exact .nil
  | cons r t ih => rw [List.reverse_cons, List.reverse_cons]; exact Vals.append ih (.cons r .nil)
theorem Vals.rep {xs : List V} {us : List Value} (h : Vals xs us) : ∀ k : Nat, Vals (List.replicate k xs).flatten (List.replicate k us).flatten
  | 0 => .nil
  | k + 1 => by
    rw [List.replicate_succ, List.replicate_succ, List.flatten_cons, List.flatten_cons]
    exact Vals.append h (Vals.rep h k)
theorem erase_last {α : Type} (l : List α) : l.eraseIdx (l.length - 1) = l.dropLast := by
  induction l with
  | nil => rfl
  | cons a r ih =>
    cases r with
    | nil => rfl
    | cons b r =>
      have e : (a :: b :: r).length - 1 = ((b :: r).length - 1) + 1 := by
        have h1 : (a :: b :: r).length = r.length + 2 := rfl
        have h2 : (b :: r).length = r.length + 1 := rfl
        omega
      rw [e, List.eraseIdx_cons_succ, ih]
      all_goals rfl
theorem len_erase {α : Type} : ∀ (l : List α) (i : Nat), (l.eraseIdx i).length ≤ l.length
  | [], _ => Nat.le_refl _
  | _ :: _, 0 => Nat.le_succ _
  | _ :: r, i + 1 => Nat.succ_le_succ (len_erase r i)
theorem foldl_rep (its : List Value) : ∀ (k : Nat) (acc : List Value),
    List.foldl (fun x1 x2 => x1 ++ x2) acc.toArray (List.replicate k its.toArray) = (acc ++ (List.replicate k its).flatten).toArray
  | 0, acc => by simp
  | k + 1, acc => by
    have e : acc.toArray ++ its.toArray = (acc ++ its).toArray := by simp
    have e2 : (acc ++ its) ++ (List.replicate k its).flatten = acc ++ (List.replicate (k + 1) its).flatten := by
      rw [List.replicate_succ, List.flatten_cons, List.append_assoc]
    rw [← e2, ← foldl_rep its k (acc ++ its), ← e, List.replicate_succ, List.foldl_cons]

section
variable {X : Cx} {pins : List (Addr × Obj)} {σ : St} {H : Hp} {s : Shared} {l b : Addr} {xs ys zs : List V}

/-! ### the two steps: a tracked list is rewritten, a new list is laid -/
theorem Inv.lset {its its' : List Value} {n : Nat} {f : Array Value → Array Value} {t' : Nat} (I : Inv X pins σ H s) (hH : H l = some (.lst xs))
    (e : s.heap.get? l = some { cls := .type "list", data := .seq its.toArray n }) (hf : f its.toArray = its'.toArray) (hv : Vals ys its') (hz : ys.length ≤ sizeLine) :
    Inv X pins σ (upd H l (.lst ys)) { s with heap := s.heap.update l (Obj.mapSeq f), toks := t' } := by
  have q := PySem.IsL.update e f
  rw [hf] at q
  refine I.write (x := l) (e := l) (by rw [hH]; exact trivial) (.inl rfl) (fun b' u hb hu => (Heap.get?_update_other s.heap (Obj.mapSeq f) (Ne.symm hb)).trans hu) ⟨_, q⟩ ?_
  exact ⟨hz, its', _, hv, q⟩
theorem Inv.lnew {its : List Value} {t' : Nat} (I : Inv X pins σ H s) (hv : Vals ys its) (hz : ys.length ≤ sizeLine) :
    Inv X pins σ (upd H s.heap.objs.size (.lst ys)) { s with heap := s.heap.push { cls := .type "list", data := .seq its.toArray }, toks := t' } :=
  I.laid (fun _ _ q => Heap.get?_push_of_some _ q) (Nat.le_refl _) ⟨hz, its, 0, hv, Heap.get?_push_size _ rfl⟩
theorem Inv.fresh (I : Inv X pins σ H s) : H s.heap.objs.size = none := I.hok.fresh (Nat.le_refl _)
theorem Inv.lstM (I : Inv X pins σ H s) (hH : H l = some (.lst xs)) : xs.length ≤ sizeLine ∧ ∃ (its : List Value) (n : Nat), Vals xs its ∧ xs.length = its.length ∧ s.heap.get? l = some { cls := .type "list", data := .seq its.toArray n } := by
  obtain ⟨z, its, n, r, e⟩ := I.hok l _ hH
  exact ⟨z, its, n, r, r.length, e⟩

theorem notLongL {n : Nat} (h : n ≤ sizeLine) : Builtin.List.listTooLong n = false := by
  unfold Builtin.List.listTooLong
  exact decide_eq_false (by omega)
end

section
variable {X : Cx}

/-! ### methods -/
def rAppend : V → List V → Hp → VK → Prop := fun x vs H Q => ∃ l xs y, x = .ref l ∧ vs = [y] ∧ H l = some (.lst xs) ∧ xs.length < sizeLine ∧ Q .non (upd H l (.lst (xs ++ [y])))
theorem mt_append : MtM X "list.append" rAppend := by
  intro pins s σ H x vs v us Q I rx rv h
  obtain ⟨l, xs, y, rfl, rfl, hH, hz, q⟩ := h
  cases rx
  obtain ⟨u, rfl, ru⟩ := rv.one
  obtain ⟨z, its, n, r, hl, e⟩ := I.lstM hH
  refine call_meets F.slot_list_append ⟨_, e, rfl⟩ F.entry_list_append (F.args_list_append_2 _ _) (PySem.list_append l its.toArray n u (by rw [List.size_toArray]; omega)) ⟨e, ?_⟩
  refine ⟨.non, _, I.lset (its' := its ++ [u]) hH e (by simp) (r.append (.cons ru .nil)) ?_, rfl, q⟩
  rw [List.length_append, List.length_singleton]
  omega

def rExtend : V → List V → Hp → VK → Prop := fun x vs H Q => ∃ l b xs zs, x = .ref l ∧ vs = [.ref b] ∧ H l = some (.lst xs) ∧ H b = some (.lst zs) ∧ xs.length + zs.length ≤ sizeLine ∧ Q .non (upd H l (.lst (xs ++ zs)))
theorem mt_extend : MtM X "list.extend" rExtend := by
  intro pins s σ H x vs v us Q I rx rv h
  obtain ⟨l, b, xs, zs, rfl, rfl, hH, hB, hz, q⟩ := h
  cases rx
  obtain ⟨u, rfl, ru⟩ := rv.one
  cases ru
  obtain ⟨z, its, n, r, hl, e⟩ := I.lstM hH
  obtain ⟨z2, its2, n2, r2, hl2, e2⟩ := I.lstM hB
  have hsz : its.toArray.size + its2.toArray.size ≤ sizeLine := by rw [List.size_toArray, List.size_toArray]; omega
  have hlong : ¬ (!its.toArray.isEmpty && Builtin.List.listTooLong (its.toArray.size + its2.toArray.size)) = true := by
    rw [notLongL hsz, Bool.and_false]
    exact Bool.false_ne_true
  refine call_meets F.slot_list_extend ⟨_, e, rfl⟩ F.entry_list_extend (F.args_list_extend_2 _ _)
    (AutoSeq1.list_extend_list_list_0 l its.toArray n b its2.toArray n2 hlong (by rw [List.size_toArray]; omega) (by omega)) ⟨e, e2, ?_⟩
  refine ⟨.non, _, I.lset (its' := its ++ its2) hH e (by simp) (r.append r2) ?_, rfl, q⟩
  rw [List.length_append]
  omega

def rPop : V → List V → Hp → VK → Prop := fun x vs H Q => ∃ l xs y, x = .ref l ∧ vs = [] ∧ H l = some (.lst xs) ∧ xs[xs.length - 1]? = some y ∧ Q y (upd H l (.lst xs.dropLast))
theorem mt_pop : MtM X "list.pop" rPop := by
  intro pins s σ H x vs v us Q I rx rv h
  obtain ⟨l, xs, y, rfl, rfl, hH, hy, q⟩ := h
  cases rx
  have hus := rv.zero
  subst hus
  obtain ⟨z, its, n, r, hl, e⟩ := I.lstM hH
  obtain ⟨u, hu, ru⟩ := r.get hy
  have hy' : its.toArray[its.toArray.size - 1]? = some u := by
    show its.toArray[its.length - 1]? = some u
    rw [← Array.getElem?_toList, ← hl]
    exact hu
  refine call_meets F.slot_list_pop ⟨_, e, rfl⟩ F.entry_list_pop (F.args_list_pop_1 _) (MeetsSeq.list_pop_last l its.toArray n u hy' (by rw [List.size_toArray]; omega)) ⟨e, ?_⟩
  refine ⟨y, _, I.lset (its' := its.dropLast) hH e ?_ r.dropLast ?_, ru, q⟩
  · show its.toArray.eraseIdxIfInBounds (its.toArray.size - 1) = its.dropLast.toArray
    rw [List.size_toArray, List.eraseIdxIfInBounds_toArray, erase_last]
  · rw [List.length_dropLast]
    omega

def rPopAt : V → List V → Hp → VK → Prop := fun x vs H Q => ∃ l xs i k y, x = .ref l ∧ vs = [.int i] ∧ H l = some (.lst xs) ∧ -(2 ^ 63) ≤ i ∧ i < 2 ^ 63 ∧ seqIndex? i xs.length = some k ∧ xs[k]? = some y ∧ Q y (upd H l (.lst (xs.eraseIdx k)))
theorem mt_popAt : MtM X "list.pop" rPopAt := by
  intro pins s σ H x vs v us Q I rx rv h
  obtain ⟨l, xs, i, k, y, rfl, rfl, hH, h1, h2, hk, hy, q⟩ := h
  cases rx
  obtain ⟨u, rfl, ru⟩ := rv.one
  obtain ⟨t, rfl⟩ := ru
  obtain ⟨z, its, n, r, hl, e⟩ := I.lstM hH
  obtain ⟨w, hw, rw'⟩ := r.get hy
  refine call_meets F.slot_list_pop ⟨_, e, rfl⟩ F.entry_list_pop (F.args_list_pop_2 _ _)
    (MeetsSeq.list_pop_at l its.toArray n i t k w (fitsIndex_both h1 h2) (by rw [List.size_toArray, ← hl]; exact hk) (by rw [← Array.getElem?_toList]; exact hw) (by rw [List.size_toArray]; omega)) ⟨e, ?_⟩
  refine ⟨y, _, I.lset (its' := its.eraseIdx k) hH e ?_ (r.eraseIdx k) ?_, rw', q⟩
  · show its.toArray.eraseIdxIfInBounds k = (its.eraseIdx k).toArray
    rw [List.eraseIdxIfInBounds_toArray]
  · have := len_erase xs k
    omega

def rReverse : V → List V → Hp → VK → Prop := fun x vs H Q => ∃ l xs, x = .ref l ∧ vs = [] ∧ H l = some (.lst xs) ∧ Q .non (upd H l (.lst xs.reverse))
theorem mt_reverse : MtM X "list.reverse" rReverse := by
  intro pins s σ H x vs v us Q I rx rv h
  obtain ⟨l, xs, rfl, rfl, hH, q⟩ := h
  cases rx
  have hus := rv.zero
  subst hus
  obtain ⟨z, its, n, r, hl, e⟩ := I.lstM hH
  refine call_meets F.slot_list_reverse ⟨_, e, rfl⟩ F.entry_list_reverse (F.args_list_reverse_1 _) (AutoSeq1.list_reverse_list_0 l its.toArray n (by rw [List.size_toArray]; omega)) ⟨e, ?_⟩
  refine ⟨.non, _, I.lset (its' := its.reverse) hH e (by simp) r.reverse ?_, rfl, q⟩
  rw [List.length_reverse]
  omega

def rClear : V → List V → Hp → VK → Prop := fun x vs H Q => ∃ l xs, x = .ref l ∧ vs = [] ∧ H l = some (.lst xs) ∧ Q .non (upd H l (.lst []))
theorem mt_clear : MtM X "list.clear" rClear := by
  intro pins s σ H x vs v us Q I rx rv h
  obtain ⟨l, xs, rfl, rfl, hH, q⟩ := h
  cases rx
  have hus := rv.zero
  subst hus
  obtain ⟨z, its, n, r, hl, e⟩ := I.lstM hH
  refine call_meets F.slot_list_clear ⟨_, e, rfl⟩ F.entry_list_clear (F.args_list_clear_1 _) (AutoSeq1.list_clear_list_0 l its.toArray n (by rw [List.size_toArray]; omega)) ⟨e, ?_⟩
  exact ⟨.non, _, I.lset (its' := []) (ys := []) hH e rfl .nil (Nat.zero_le _), rfl, q⟩

/-! ### list + list, list += list, list * int -/
def rCat : R2 := fun x y H Q => ∃ l b xs zs, x = .ref l ∧ y = .ref b ∧ H l = some (.lst xs) ∧ H b = some (.lst zs) ∧ xs.length + zs.length ≤ sizeLine ∧ ∀ p, H p = none → Q (.ref p) (upd H p (.lst (xs ++ zs)))
theorem op_cat : OpR X (binaryOp .Add) rCat := by
  intro pins s σ H x y v u Q I rx ry h
  obtain ⟨l, b, xs, zs, rfl, rfl, hH, hB, hz, q⟩ := h
  cases rx
  cases ry
  obtain ⟨z, its, n, r, hl, e⟩ := I.lstM hH
  obtain ⟨z2, its2, n2, r2, hl2, e2⟩ := I.lstM hB
  refine PySem.P.add_list e e2 ?_ (by rw [List.size_toArray, List.size_toArray]; omega)
  have ea : its.toArray ++ its2.toArray = (its ++ its2).toArray := by simp
  rw [ea]
  exact ⟨.ref _, _, I.lnew (t' := s.toks) (r.append r2) (by rw [List.length_append]; omega), rfl, q _ I.fresh⟩
/-- a list times an int (a negative one is nothing) -/
def rRep : R2 := fun x y H Q => ∃ l k xs, x = .ref l ∧ y = .int k ∧ H l = some (.lst xs) ∧ -(2 ^ 63) ≤ k ∧ k < 2 ^ 63 ∧ xs.length * k.toNat ≤ sizeLine ∧
  ∀ p, H p = none → Q (.ref p) (upd H p (.lst (List.replicate k.toNat xs).flatten))
theorem len_rep {α : Type} (xs : List α) (k : Nat) : (List.replicate k xs).flatten.length = k * xs.length := by
  induction k with
  | zero => simp
  | succ k ih => rw [List.replicate_succ, List.flatten_cons, List.length_append, ih, Nat.succ_mul, Nat.add_comm]
theorem op_rep : OpR X (binaryOp .Mult) rRep := by
  intro pins s σ H x y v u Q I rx ry h
  obtain ⟨l, k, xs, rfl, rfl, hH, h1, h2, hz, q⟩ := h
  cases rx
  obtain ⟨t, rfl⟩ := ry
  obtain ⟨z, its, n, r, hl, e⟩ := I.lstM hH
  have hlen : its.toArray.size * k.toNat ≤ sizeLine := by rw [List.size_toArray, ← hl]; exact hz
  have hcap : ¬ its.toArray.size * k.toNat > (2 ^ 63 - 1) / 8 := by
    have : (sizeLine : Nat) ≤ (2 ^ 63 - 1) / 8 := by decide
    omega
  have hfit : ¬ (!Builtin.List.listFitsIndex k) = true := by
    rw [fitsIndex_both h1 h2]
    exact Bool.false_ne_true
  have hlong : ¬ Builtin.List.listTooLong (its.toArray.size * k.toNat) = true := by
    rw [notLongL hlen]
    exact Bool.false_ne_true
  have hnew : List.foldl (fun x1 x2 => x1 ++ x2) #[] (List.replicate (if its.toArray.isEmpty = true then 0 else k.toNat) its.toArray) = (List.replicate k.toNat its).flatten.toArray := by
    have f0 : ∀ m : Nat, List.foldl (fun x1 x2 => x1 ++ x2) #[] (List.replicate m its.toArray) = (List.replicate m its).flatten.toArray := fun m => by
      have := foldl_rep its m []
      rw [List.nil_append] at this
      exact this
    rw [f0]
    cases its with
    | nil => simp
    | cons a r' => rw [if_neg (by simp)]
  refine wpAny_binaryOp_repeat_ref (T := "list") (U := "int") (by decide) ⟨_, e, rfl⟩ (fun s' => typeIs_int s' k t) noFill_list_mul F.fills_int_mul F.slot_int_rmul repeat_list F.slot_int_index.lookup
    (call_meets F.slot_int_rmul (typeIs_int s k t) F.entry_int_rmul (F.args_int_rmul_2 _ _) (int___rmul___int_list k t l its.toArray n)
      ⟨e, rfl, ⟨_, e, rfl⟩, call_meets F.slot_list_mul ⟨_, e, rfl⟩ F.entry_list_mul (F.args_list_mul_2 _ _) (AutoListH.list___mul___list_int_3 l its.toArray n k t hfit hcap hlong) ⟨e, ?_⟩⟩)
  rw [hnew]
  exact ⟨.ref _, _, I.lnew (t' := s.toks) (r.rep k.toNat) (by rw [len_rep, Nat.mul_comm]; exact hz), rfl, q _ I.fresh⟩

/-! ### del xs[i] -/
theorem del_list {pins : List (Addr × Obj)} {s : Shared} {σ : St} {H : Hp} {l : Addr} {xs : List V} {i : Int} {t : Tok} {k : Nat} {Q : Unit → Shared → Prop} (I : Inv X pins σ H s) (hH : H l = some (.lst xs))
    (h1 : -(2 ^ 63) ≤ i) (h2 : i < 2 ^ 63) (hk : seqIndex? i xs.length = some k) (h : ∀ s', Inv X pins σ (upd H l (.lst (xs.eraseIdx k))) s' → Q () s') :
    wpAny (model X.prog X.w) X.A (delItem (.ref l) (.int i t)) Q X.xe s := by
  obtain ⟨z, its, n, r, hl, e⟩ := I.lstM hH
  refine PySem.P.delItem_list (k := k) e (fitsIndex_both h1 h2) (by rw [List.size_toArray, ← hl]; exact hk) (h _ ?_) (by rw [List.size_toArray]; omega)
  refine I.lset (its' := its.eraseIdx k) (t' := s.toks) hH e ?_ (r.eraseIdx k) ?_
  · show its.toArray.eraseIdxIfInBounds k = (its.eraseIdx k).toArray
    rw [List.eraseIdxIfInBounds_toArray]
  · have := len_erase xs k
    omega
end

/-! ### xs[a:b] = ys -/
section
variable {prog : Program} {w : World} {A : Around} {E : Value → Shared → Prop} {s : Shared}
theorem splice_eq (its its2 : List Value) (a c : Nat) : its.toArray.extract 0 a ++ its2.toArray ++ its.toArray.extract c its.toArray.size = (its.take a ++ its2 ++ its.drop c).toArray := by
  apply Array.toList_inj.mp
  first
    | (simp
       exact List.take_of_length_le (by simp))
    | simp [List.take_of_length_le]
    | simp
theorem bounds_run {a c n : Nat} (hac : a ≤ c) (hc : c ≤ n) : sliceBounds (some (a : Int)) (some (c : Int)) none n = ((a : Int), (c : Int), 1) := by
  simp only [sliceBounds, Option.getD_none]
  have h1 : ¬ ((a : Int) < 0) := by omega
  have h2 : ¬ ((c : Int) < 0) := by omega
  simp only [h1, h2, if_false, show (1 : Int) > 0 by decide, if_true]
  congr 1
  · omega
  · congr 1; omega
set_option maxRecDepth 100000 in
/-- list.__setitem__ with a slice of step one and another list -/
theorem setItem_slice {l b sl : Addr} {items new : Array Value} {n n2 : Nat} {vl vu : Value} {a c : Nat} {Q : Unit → Shared → Prop}
    (e : s.heap.get? l = some { cls := .type "list", data := .seq items n }) (e2 : s.heap.get? b = some { cls := .type "list", data := .seq new n2 }) (hne : l ≠ b)
    (hs : s.heap.IsSliceOf sl vl vu .none) (pl : IsPart vl (some (a : Int))) (pu : IsPart vu (some (c : Int))) (hac : a ≤ c) (hc : c ≤ items.size)
    (hsz : items.size + new.size ≤ sizeLine) (h : Q () { s with heap := s.heap.update l (Obj.mapSeq fun xs => xs.extract 0 a ++ new ++ xs.extract c xs.size) }) :
    wpAny (model prog w) A (setItem (.ref l) (.ref sl) (.ref b)) Q E s := by
  have hl : s.heap.IsList l items := PySem.IsL.isList e
  have hb : s.heap.IsList b new := PySem.IsL.isList e2
  obtain ⟨os, hos, hcs, hds⟩ := id hs
  have hTs : s.TypeIs (.ref sl) "slice" := ⟨os, hos, hcs⟩
  have hstep : ¬ ((rawPart none == rawInt 0) = true) := Bool.false_ne_true
  have hsame : Builtin.List.listSameRef (.ref l) (.ref b) = false := by
    unfold Builtin.List.listSameRef
    exact beq_eq_false_iff_ne.mpr hne
  have hmax : (max (a : Int) (c : Int)).toNat = c := by omega
  have hz' : ((fun xs : Array Value => xs.extract 0 a ++ new ++ xs.extract c xs.size) items).size ≤ sizeLine + 1 := by
    simp only [Array.size_append, Array.size_extract]
    omega
  unfold setItem
  try with_reducible refine wpAny_holding ?_
  first | refine wpAny_bind (wpAny_pure ?_) | skip
  refine wpAny_bind (wpAny_sequenceKey hl.typeIs (by decide) ?_)
  refine wpAny_bind (wpAny_callSpecial?_slot (name := Str.ofString "__setitem__") hl.typeIs slot_list_setitem
    (wpAny_call_entry slot_list_setitem hl.typeIs entry_list_setitem ?_ (args_list_setitem _ _ _)))
  show wpAny _ _ (Builtin.List.listSubscript? (.ref sl) >>= _) _ _ s
  refine wpAny_bind ?_
  unfold Builtin.List.listSubscript?
  refine wpAny_bind (wpAny_specialOf hTs slice_no_index ?_)
  simp only [Option.isNone_none, if_true]
  refine wpAny_pure ?_
  show wpAny _ _ (typeOf (.ref sl) >>= _) _ _ s
  refine wpAny_bind (wpAny_typeOf hTs ?_)
  first
    | rw [if_neg (by decide)]
    | refine PySem.W.KFB.if_not (by decide) ?_
  rw [listSliceParts_eq]
  refine wpAny_bind (wpAny_bind (wpAny_field hos hds (x := .none) rfl (wpAny_bind (wpAny_listPart .none ?_))))
  rw [if_neg hstep]
  refine wpAny_bind (wpAny_field hos hds (x := vl) rfl (wpAny_bind (wpAny_listPart pl ?_)))
  refine wpAny_bind (wpAny_field hos hds (x := vu) rfl (wpAny_bind (wpAny_listPart pu (wpAny_pure ?_))))
  first
    | simp only [hsame, Bool.false_eq_true, if_false]
    | refine PySem.W.KFB.if_not hsame ?_
    | (dsimp only
       rw [if_neg (by rw [hsame]; exact Bool.false_ne_true)])
  refine wpAny_bind (m := Builtin.List.listAllItems (.ref b) "must assign iterable to extended slice") ?_
  unfold Builtin.List.listAllItems
  refine wpAny_bind (wpAny_typeOf hb.typeIs ?_)
  first
    | refine PySem.W.KFB.if_so (by decide) ?_
    | rw [if_pos (by decide)]
    | simp only [beq_self_eq_true, Bool.true_or, if_true]
  unfold Builtin.List.listItems
  refine wpAny_bind (wpAny_seqItems e2 rfl (wpAny_pure ?_))
  refine wpAny_bind (wpAny_bind (wpAny_seqItems e rfl (wpAny_pure ?_)))
  refine wpAny_bind (wpAny_of_eq ((sliceIndices_raw (some (a : Int)) (some (c : Int)) none items.size (by simp)).trans (congrArg (pure : Int × Int × Int → Sem (Int × Int × Int)) (bounds_run hac hc))) ?_)
  show wpAny _ _ (if ((1 : Int) == 1) = true then _ else _) _ _ s
  rw [if_pos (by decide)]
  refine wpAny_bind (wpAny_rule ?_)
  first
    | simp only [notLongL hsz, Bool.false_eq_true, if_false]
    | refine PySem.W.KFB.if_not (notLongL hsz) ?_
  first | refine wpAny_bind (wpAny_pure ?_) | skip
  show wpAny _ _ (updateSeq l (fun xs => xs.extract 0 ((a : Int)).toNat ++ new ++ xs.extract (max (a : Int) (c : Int)).toNat xs.size) >>= _) _ _ s
  rw [hmax, Int.toNat_natCast]
  refine wpAny_bind (wpAny_updateSeq (hz := Nat.le_trans (Nat.le_add_right _ _) hsz) (_hz' := hz') e rfl ?_)
  refine wpAny_bind (wpAny_letGo ?_)
  first
    | exact wpAny_bind (wpAny_pure (wpAny_pure ⟨.none, rfl, wpAny_pure h⟩))
    | exact wpAny_pure ⟨.none, rfl, wpAny_pure h⟩
end

section
variable {X : Cx}
/-- xs[a:c] = ys of another list, at the value level: sl is the slice object that was just made -/
theorem set_slice {pins : List (Addr × Obj)} {s : Shared} {σ : St} {H : Hp} {l b sl : Addr} {xs ys : List V} {a c : Int} {vl vu : Value} {Q : Unit → Shared → Prop} (I : Inv X pins σ H s)
    (hH : H l = some (.lst xs)) (hB : H b = some (.lst ys)) (hne : l ≠ b) (hs : s.heap.IsSliceOf sl vl vu .none) (ra : RelV (.int a) vl) (rc : RelV (.int c) vu) (h0 : 0 ≤ a) (hac : a ≤ c) (hc : c ≤ xs.length)
    (hz : xs.length + ys.length ≤ sizeLine) (h : ∀ s', Inv X pins σ (upd H l (.lst (xs.take a.toNat ++ ys ++ xs.drop c.toNat))) s' → Q () s') :
    wpAny (model X.prog X.w) X.A (setItem (.ref l) (.ref sl) (.ref b)) Q X.xe s := by
  obtain ⟨ta, rfl⟩ := ra
  obtain ⟨tc, rfl⟩ := rc
  obtain ⟨z, its, n, r, hl, e⟩ := I.lstM hH
  obtain ⟨z2, its2, n2, r2, hl2, e2⟩ := I.lstM hB
  obtain ⟨a', rfl⟩ := Int.eq_ofNat_of_zero_le h0
  obtain ⟨c', rfl⟩ := Int.eq_ofNat_of_zero_le (Int.le_trans h0 hac)
  simp only [Int.toNat_natCast] at h
  refine setItem_slice (a := a') (c := c') e e2 hne hs (.int _ _) (.int _ _) (by omega) (by rw [List.size_toArray]; omega) (by rw [List.size_toArray, List.size_toArray]; omega) (h _ ?_)
  refine I.lset (its' := its.take a' ++ its2 ++ its.drop c') (t' := s.toks) hH e ?_ (Vals.append (Vals.append (r.take _) r2) (r.drop _)) ?_
  · exact splice_eq its its2 a' c'
  · rw [List.length_append, List.length_append, List.length_take, List.length_drop]
    omega
end
end L2

namespace Att
open PySem PySem.W PySem.Calls PyProof.Rows

/-! ### the script -/
theorem ints_of_wellAll {P : Params} {h : Heap} : ∀ (ns : List Int) (vs : List Value), WellAll P h vs (ns.map WData.int) → IntsAre vs ns := by
  intro ns
  induction ns with
  | nil =>
    intro vs w
    rw [List.map_nil] at w
    cases w
    exact .nil
  | cons n ns ih =>
    intro vs w
    rw [List.map_cons] at w
    cases w with
    | cons a b =>
      cases a
      exact .cons _ _ (ih _ b)

theorem script_of {l : OpenLaw} {n : Nat} (hn : l.most = some n) {P : Params} {h : Heap} {args : List WData} {vals : List Value}
    (hpre : l.row.toRowW.claim.pre args = true) (hwl : WellAll P h vals args) :
    ∃ a vs ns, vals = [Value.ref a] ∧ args = [WData.list (ns.map WData.int)] ∧ h.get? a = some { cls := .type "list", data := .seq vs.toArray } ∧ IntsAre vs ns ∧ ns.length ≤ n := by
  have hsh : WShape.hasAll [] args [.list .int] = true := (pre_splitW hpre).1
  have hc : l.pre.holds [] { args := args } = true := (pre_splitW hpre).2
  obtain ⟨d, r, rfl, h1, h2⟩ := hasAllW_cons hsh
  obtain rfl := hasAllW_nil h2
  obtain ⟨xs, rfl, h3⟩ := hasW_list h1
  obtain ⟨ns, rfl⟩ := items_int h3
  have hlen : ns.length ≤ n := by
    unfold OpenLaw.pre at hc
    have h4 : (WTm.not (.lt (.lit (.int (n : Int))) (.len (.arg 0)))).holds [] { args := [.list (ns.map .int)] } = true := by
      have h4 := (holds_andW hc).1
      rw [hn] at h4
      exact h4
    have h5 := condW_of h4 (w_not (w_lt w_lit (w_len_list (w_arg rfl))))
    rw [List.length_map] at h5
    refine Nat.le_of_not_lt fun q => ?_
    have q' : (n : Int) < ((ns.length : Nat) : Int) := by omega
    first
      | (rw [decide_eq_true q'] at h5; exact absurd h5 (by decide))
      | (simp at h5; omega)
  cases hwl with
  | cons w1 w2 =>
    cases w2
    cases w1 with
    | list ho hall => exact ⟨_, _, ns, rfl, rfl, ho, ints_of_wellAll ns _ hall, hlen⟩

theorem post_true (l : OpenLaw) (args : List WData) : l.row.toRowW.claim.post args (.bool true) args = true :=
  postW_of (r := l.row.toRowW) (X := (true == true))
    (show WShape.has [] (.bool true) .bool = true by first | rfl | decide | simp [WShape.has, WShape.arms, WShape.armsAll])
    (show (WTm.eq .res (.lit (.bool true))).value [] { args := args, res := some (.bool true), after := args } = some (.bool (true == true)) from w_eq_bool (w_res rfl) w_lit) rfl

/-! ### the attachment: holds_open's last premise (the goal 'hc' behind k_head) from a wpAny of the law's body -/
theorem attach {l : OpenLaw} {n : Nat} {q : Program} {loose : List Str} {XP : (Str → Option Value) → Heap → Prop} {YP : World → Heap → Prop} {d : DefRec} {x : Str}
    (hn : l.most = some n) (hdf : d.params.defaults = [])
    (hbind : ∀ pm cd doc v : Value, bindArgs (docDef d.name d.params d.body d.scope pm cd doc) ⟨[v], []⟩ = pure [(x, v)])
    (hx : d.scope.names.lookup x = some .local ∨ d.scope.names.lookup x = some .cell)
    (hk : d.scope.kind = .function) (hco : d.scope.isCoroutine = false) (hgen : d.scope.isGenerator = false)
    (body : ∀ (w : World) (s₀ s₁ s : Shared) (mg mb : Str → Option Value) (fa : Addr) (o : Obj) (pm cd doc : Value) (a : Addr) (vs : List Value) (ns : List Int),
      Ground q loose [] XP w s₀ mg mb s₁.heap → YP w s₁.heap →
      s₁.heap.get? fa = some o → o.data = .func (docDef d.name d.params d.body d.scope pm cd doc) → s₁.heap.CodeRec cd d.name → mg d.name = some (.ref fa) →
      s₁.heap.get? a = some { cls := .type "list", data := .seq vs.toArray } → IntsAre vs ns → ns.length ≤ n →
      s.gens = #[] → s.os = s₁.os →
      Fr s₁.heap s₁.heap.objs.size s.heap (bindL (envOfC d.name d.scope s₁.heap.objs.size fa cd).kindOf [(x, .ref a)] fun _ => none) →
      Cl s₁.heap.objs.size (cellsFrom (s₁.heap.objs.size + 1) d.scope.names []) s.heap (bindC (envOfC d.name d.scope s₁.heap.objs.size fa cd).kindOf [(x, .ref a)] fun _ => none) →
      wpAny (model l.prog w) (callerA.deeper (envOfC d.name d.scope s₁.heap.objs.size fa cd)) (execs d.body (envOfC d.name d.scope s₁.heap.objs.size fa cd))
        (fun f s' => f = .ret (.bool true) ∧ OldK s₁.heap s'.heap ∧ s'.os = s₁.os ∧ AllBare s'.gens) (fun _ _ => False) s) :
    WalkO q loose XP YP l.row.toRowW d [] (fun f vs => PySem.call f vs) := by
  intro w s₀ s₁ mg mb G Y fa o pm cd doc dV kV ho hd hcd hD hmg hg args vals as hpre hlay hrd hwl hlo
  obtain rfl : dV = .none := Dflts.none hD hdf
  obtain rfl : kV = .none := Dflts.noKw hD
  obtain ⟨a, vs, ns, rfl, rfl, hobj, hints, hlen⟩ := script_of hn hpre hwl
  refine enter_call ?_
  refine call_cells_ret (o := o) (by rw [depth_caller]; decide) ho (fd_plain hd) G.T.nolimit hcd (hbind pm cd doc (.ref a)) (fun y hy => ?_) (fun h₁ tk F X => ?_) hco hgen hk
  · obtain rfl : y = (x, Value.ref a) := List.mem_singleton.mp hy
    rcases hx with e | e
    · exact .inl e
    · exact .inr ⟨e, cellsFrom_some _ _ _ (.inl e)⟩
  · refine wpAny_mono (body w s₀ s₁ { s₁ with heap := h₁, toks := tk } mg mb fa o pm cd doc a vs ns G Y ho (fd_plain hd) hcd hmg hobj hints hlen hg rfl F X) (fun f s' hq => ?_) (fun _ _ hq => hq)
    obtain ⟨rfl, h2, h3, h4⟩ := hq
    exact ⟨.inl ⟨.bool true, .bool true, [], rfl, fun _ => rfl, .bool true, post_true l _, fun _ => ⟨List.Pairwise.nil, fun _ hm => (nomatch hm)⟩⟩, h2, h3, h4⟩

/-- the same from a codeAny of the CALL (for a layer whose function contracts speak of calls) -/
theorem attach_call {l : OpenLaw} {n : Nat} {q : Program} {loose : List Str} {XP : (Str → Option Value) → Heap → Prop} {YP : World → Heap → Prop} {d : DefRec}
    (hn : l.most = some n) (hdf : d.params.defaults = [])
    (call : ∀ (w : World) (s₀ s₁ : Shared) (mg mb : Str → Option Value) (fa : Addr) (o : Obj) (pm cd doc : Value) (a : Addr) (vs : List Value) (ns : List Int),
      Ground q loose [] XP w s₀ mg mb s₁.heap → YP w s₁.heap →
      s₁.heap.get? fa = some o → o.data = .func (docDef d.name d.params d.body d.scope pm cd doc) → s₁.heap.CodeRec cd d.name → mg d.name = some (.ref fa) →
      s₁.heap.get? a = some { cls := .type "list", data := .seq vs.toArray } → IntsAre vs ns → ns.length ≤ n → s₁.gens = #[] →
      codeAny (model l.prog w) callerA (.call (.ref fa) ⟨[.ref a], []⟩) (fun r s' => r = .ok (.ret (.bool true)) ∧ OldK s₁.heap s'.heap ∧ s'.os = s₁.os ∧ AllBare s'.gens) s₁) :
    WalkO q loose XP YP l.row.toRowW d [] (fun f vs => PySem.call f vs) := by
  intro w s₀ s₁ mg mb G Y fa o pm cd doc dV kV ho hd hcd hD hmg hg args vals as hpre hlay hrd hwl hlo
  obtain rfl : dV = .none := Dflts.none hD hdf
  obtain rfl : kV = .none := Dflts.noKw hD
  obtain ⟨a, vs, ns, rfl, rfl, hobj, hints, hlen⟩ := script_of hn hpre hwl
  refine enter_call (codeAny_mono (call w s₀ s₁ mg mb fa o pm cd doc a vs ns G Y ho (fd_plain hd) hcd hmg hobj hints hlen hg) fun r s' hq => ?_)
  obtain ⟨rfl, h2, h3, h4⟩ := hq
  exact ⟨.inl ⟨.bool true, .bool true, [], rfl, fun _ => rfl, .bool true, post_true l _, fun _ => ⟨List.Pairwise.nil, fun _ hm => (nomatch hm)⟩⟩, h2, h3, h4⟩

/-- the same where the top left finished generators (o_head chose holds_openN): nothing may have changed at all and no generator may be left -/
theorem attachN {l : OpenLaw} {n : Nat} {q : Program} {loose : List Str} {XP : (Str → Option Value) → Heap → Prop} {YP : World → Heap → Prop} {d : DefRec} {x : Str}
    (hn : l.most = some n) (hdf : d.params.defaults = [])
    (hbind : ∀ pm cd doc v : Value, bindArgs (docDef d.name d.params d.body d.scope pm cd doc) ⟨[v], []⟩ = pure [(x, v)])
    (hx : d.scope.names.lookup x = some .local ∨ d.scope.names.lookup x = some .cell)
    (hk : d.scope.kind = .function) (hco : d.scope.isCoroutine = false) (hgen : d.scope.isGenerator = false)
    (body : ∀ (w : World) (s₀ s₁ s : Shared) (mg mb : Str → Option Value) (fa : Addr) (o : Obj) (pm cd doc : Value) (a : Addr) (vs : List Value) (ns : List Int),
      Ground q loose [] XP w s₀ mg mb s₁.heap → YP w s₁.heap →
      s₁.heap.get? fa = some o → o.data = .func (docDef d.name d.params d.body d.scope pm cd doc) → s₁.heap.CodeRec cd d.name → mg d.name = some (.ref fa) →
      s₁.heap.get? a = some { cls := .type "list", data := .seq vs.toArray } → IntsAre vs ns → ns.length ≤ n →
      s.gens = #[] → s.os = s₁.os →
      Fr s₁.heap s₁.heap.objs.size s.heap (bindL (envOfC d.name d.scope s₁.heap.objs.size fa cd).kindOf [(x, .ref a)] fun _ => none) →
      Cl s₁.heap.objs.size (cellsFrom (s₁.heap.objs.size + 1) d.scope.names []) s.heap (bindC (envOfC d.name d.scope s₁.heap.objs.size fa cd).kindOf [(x, .ref a)] fun _ => none) →
      wpAny (model l.prog w) (callerA.deeper (envOfC d.name d.scope s₁.heap.objs.size fa cd)) (execs d.body (envOfC d.name d.scope s₁.heap.objs.size fa cd))
        (fun f s' => f = .ret (.bool true) ∧ (∀ b o, s₁.heap.get? b = some o → s'.heap.get? b = some o) ∧ s'.os = s₁.os ∧ s'.gens = #[]) (fun _ _ => False) s) :
    WalkN q loose XP YP l.row.toRowW d [] (fun f vs => PySem.call f vs) := by
  intro w s₀ s₁ mg mb G Y fa o pm cd doc dV kV ho hd hcd hD hmg hg args vals as hpre hlay hrd hwl hlo
  obtain rfl : dV = .none := Dflts.none hD hdf
  obtain rfl : kV = .none := Dflts.noKw hD
  obtain ⟨a, vs, ns, rfl, rfl, hobj, hints, hlen⟩ := script_of hn hpre hwl
  refine enter_callW ?_
  refine call_cells_ret (o := o) (by rw [depth_caller]; decide) ho (fd_plain hd) G.T.nolimit hcd (hbind pm cd doc (.ref a)) (fun y hy => ?_) (fun h₁ tk F X => ?_) hco hgen hk
  · obtain rfl : y = (x, Value.ref a) := List.mem_singleton.mp hy
    rcases hx with e | e
    · exact .inl e
    · exact .inr ⟨e, cellsFrom_some _ _ _ (.inl e)⟩
  · refine wpAny_mono (body w s₀ s₁ { s₁ with heap := h₁, toks := tk } mg mb fa o pm cd doc a vs ns G Y ho (fd_plain hd) hcd hmg hobj hints hlen hg rfl F X) (fun f s' hq => ?_) (fun _ _ hq => hq)
    obtain ⟨rfl, h2, h3, h4⟩ := hq
    exact ⟨.inl ⟨.bool true, .bool true, [], rfl, fun _ => rfl, .bool true, post_true l _, fun _ => ⟨List.Pairwise.nil, fun _ hm => (nomatch hm)⟩⟩, h2, h3, h4⟩

/-! ### rules over ANY heap (no ledger) from facts about the written part K: the library's own take a ledger (News) for what they write -/
section
variable {prog : Program} {w : World} {A : Around} {E : Value → Shared → Prop} {s : Shared} {K : Frag}

/-- a def of the module, or a method (qual 'C.m'), entered: the frame is the next address; cells behind it -/
theorem call_fn {R : Result → Shared → Prop} {name qual : Str} {params : Arguments} {body : List Stmt} {scope : Scope} {dV kV doc pm cdv ct oc : Value} {an od : Option Addr} {osl : Array (Option Value)} {f : Addr} {args : Args} {binds : List (Str × Value)}
    (X : K.In s.heap) (hlim : s.heap.NoLimit) (ho : K.lookup f = some ⟨oc, od, .func (fnOf name qual params body scope dV kV doc pm an cdv ct), osl⟩) (hcd : codeIn K cdv qual = true) (hroom : A.depth < recursionLimit)
    (hbind : BindsTo s (fnOf name qual params body scope dV kV doc pm an cdv ct) args binds)
    (hkind : (binds.all fun y => scope.names.lookup y.1 == some .local || scope.names.lookup y.1 == some .cell) = true)
    (h : ∀ s₁, InCallC s s.heap.objs.size (bindL (envOfC qual scope s.heap.objs.size f cdv).kindOf binds fun _ => none) (cellsFrom (s.heap.objs.size + 1) scope.names [])
        (bindC (envOfC qual scope s.heap.objs.size f cdv).kindOf binds fun _ => none) s₁ →
      wpAny (model prog w) (A.deeper (envOfC qual scope s.heap.objs.size f cdv)) (execs body (envOfC qual scope s.heap.objs.size f cdv))
        (fun fl s' => R (.ok (.ret (match fl with | .ret v => v | _ => .none))) s')
        (fun e s' => wpAny (model prog w) (A.deeper (envOfC qual scope s.heap.objs.size f cdv)) (leaving (envOfC qual scope s.heap.objs.size f cdv) e) (fun _ s'' => R (.error e) s'') (fun e' s'' => R (.error e') s'') s') s₁)
    (hco : scope.isCoroutine = false) (hgen : scope.isGenerator = false) (hk : scope.kind = .function) : codeAny (model prog w) A (.call (.ref f) args) R s := by
  refine codeAny_call_function hroom (X _ _ ho) rfl hco hgen rfl (codeRec_of X hcd) (hbind _ _ _ _ ?_)
  refine wpAny_newFunctionEnv_cells hk (kindsX hkind _) fun env he s₁ x => ?_
  subst he
  exact ⟨hlim.keeps x.toInCall.keep, codeAny_func (h s₁ x)⟩

/-- C(..): dict at size, instance at size + 1, then __init__ -/
theorem make_obj {R : Result → Shared → Prop} {C fI : Addr} {rest : List Value} {kw : List (Str × Value)}
    (X : K.In s.heap) (hm : makesIn K C = true) (hi : findIn K (.ref C) "__init__" = some (some (.ref fI))) (hf : isFn K (.ref fI) = true)
    (h : codeAny (model prog w) (A.under (.builtin "type.__call__" ⟨.ref C :: rest, kw⟩)) (.call (.ref fI) ⟨.ref (s.heap.objs.size + 1) :: rest, kw⟩) (InitBack (s.heap.objs.size + 1) R)
      { s with heap := (s.heap.push emptyDict).push (instObj C s.heap.objs.size) }) : codeAny (model prog w) A (.call (.ref C) ⟨rest, kw⟩) R s := by
  obtain ⟨hh, g, d, t, os⟩ := s
  exact make_core (makes_of X hm) (looks_findIn X hi) (fun self => bind_fn X self (beq_iff_eq.mp hf)) (.inl rfl) h

/-- x.name where the instance's dict holds the name and the class does not -/
theorem get_field {x C : Addr} {ox : Obj} {es : List DictEntry} {n : Nat} {name : Str} {expr : Bool} {v : Value} {Q : Value → Shared → Prop}
    (X : K.In s.heap) (I : PySem.W.InstAt s.heap x ox C (some (dictOf es n))) (hg : plainGet K C name = true) (hh : hasDictIn K C = true) (ha : findIn K (.ref C) name = some none)
    (hl : getL name es = some (some v)) (hv : handedIn v = true) (h : Q v { s with toks := s.toks + 1 }) : wpAny (model prog w) A (getAttr (.ref x) name expr) Q E s :=
  get_value X I (plainGet_of hg).1 (findObj_own hh ha rfl hl) hv h

/-- x.m(..): the method found in the class -/
theorem get_method {x C f : Addr} {ox : Obj} {es : List DictEntry} {n : Nat} {name : Str} {pl : Sem Bool} {Q : Value × List Value → Shared → Prop}
    (X : K.In s.heap) (I : PySem.W.InstAt s.heap x ox C (some (dictOf es n))) (hg : plainGet K C name = true) (hf : findIn K (.ref C) name = some (some (.ref f))) (ht : isFn K (.ref f) = true)
    (hl : getL name es = some none) (h : Q (.ref f, [.ref x]) s) : wpAny (model prog w) A (getMethod (.ref x) name pl) Q E s :=
  method_fn X I (plainGet_of hg).1 (plainGet_of hg).2 hf (beq_iff_eq.mp ht) (by show (lookIn name (dictOf es n)).map _ = _; rw [lookIn_dict, hl]; rfl) h

/-! the whole heap as the ledger: makes every rule that writes through a ledger a rule over any heap -/
def noObjs (h : Heap) : Heap := { h with objs := #[] }
theorem noObjs_get (h : Heap) (b : Addr) : (noObjs h).get? b = none := by
  cases e : (noObjs h).get? b with
  | none => rfl
  | some o => exact absurd (Heap.lt_size e) (Nat.not_lt_zero _)
def ledger (h : Heap) (L d : Addr) : List (Addr × Obj) := (List.range h.objs.size).filterMap fun a => if a = L ∨ a = d then none else (h.get? a).map fun o => (a, o)
theorem mem_ledger {h : Heap} {L d a : Addr} {o : Obj} : (a, o) ∈ ledger h L d ↔ a ≠ L ∧ a ≠ d ∧ h.get? a = some o := by
  unfold ledger
  rw [List.mem_filterMap]
  constructor
  · rintro ⟨b, _, e⟩
    split at e
    · cases e
    · rename_i hb
      obtain ⟨o', ho, e'⟩ := Option.map_eq_some_iff.mp e
      cases e'
      exact ⟨fun q => hb (.inl q), fun q => hb (.inr q), ho⟩
  · rintro ⟨n1, n2, ho⟩
    refine ⟨a, List.mem_range.mpr (Heap.lt_size ho), ?_⟩
    rw [if_neg (show ¬ (a = L ∨ a = d) from fun q => q.elim n1 n2), ho] <;> rfl
theorem news_ledger {h : Heap} {L d : Addr} {od : Obj} (hne : d ≠ L) (ho : h.get? d = some od) : News (noObjs h) L h ([] ++ (d, od) :: ledger h L d) := by
  rintro ⟨a, o⟩ hp
  rcases List.mem_cons.mp hp with e | hp
  · cases e
    exact ⟨ho, hne, noObjs_get _ _⟩
  · obtain ⟨n1, n2, e⟩ := mem_ledger.mp hp
    exact ⟨e, n1, noObjs_get _ _⟩
theorem fr_all {h : Heap} {L : Addr} {m : Str → Option Value} (n : h.Ns L m) : Fr (noObjs h) L h m :=
  ⟨n, fun b o e => (by rw [noObjs_get] at e; cases e), Nat.zero_le _⟩
/-- Upd of the head entry (for append_K, setItem_K ..) -/
theorem upd_ledger {h : Heap} {L d : Addr} {o o' : Obj} : Upd d o o' ((d, o) :: ledger h L d) ((d, o') :: ledger h L d) :=
  .head fun ⟨_, _⟩ hp => (mem_ledger.mp hp).2.1

/-- x.name = v over any heap: L is any namespace of the heap (the frame's, say): its map stays, its object is not told; all else but the dict stays -/
theorem set_field {x C dx L : Addr} {ox : Obj} {m : Str → Option Value} {es es' : List DictEntry} {n n' : Nat} {name : Str} {v : Value} {Q : Unit → Shared → Prop}
    (X : K.In s.heap) (I : PySem.W.InstAt s.heap x ox C (some (dictOf es n))) (hd : ox.dict = some dx) (hL : s.heap.Ns L m) (hne : dx ≠ L)
    (hs : findIn K (.ref C) "__setattr__" = some (some (.builtin "object.__setattr__"))) (hp : plainOver K C = true) (ht : takerIn K C name = some none) (hh : hasDictIn K C = true) (hl : (getL name es).isSome = true)
    (e : (putL name (PyData.keyHash w.params name) (.str name (s.toks + 1)) v es, putN name es n) = (es', n')) (hz : es'.length ≤ 1000)
    (h : ∀ h' : Heap, h'.Ns L m → h'.get? dx = some (dictOf es' n') → (∀ b o, b ≠ dx → b ≠ L → s.heap.get? b = some o → h'.get? b = some o) → Q () { s with heap := h', toks := s.toks + 2 }) :
    wpAny (model prog w) A (setAttr (.ref x) name v) Q E s := by
  obtain ⟨e1, e2⟩ := Prod.mk.inj e
  have hdx : s.heap.get? dx = some (dictOf es n) := by
    have := I.dict
    rw [hd] at this
    exact this
  refine set_plain X I hs (osa_dict (s := { s with toks := s.toks + 1 }) (h₀ := noObjs s.heap) (L := L) (m := m) (od := dictOf es n) (od' := dictOf es' n') (es := es') (n := n') (pre := []) (post := ledger s.heap L dx)
    (fr_all hL) (news_ledger hne hdx) X I hd hp ht hh hl (fun _ q => nomatch q) (fun ⟨_, _⟩ q => (mem_ledger.mp q).2.1) (by rw [putName_dict, e1, e2]) rfl hz fun h' F' N' => ?_)
  exact h h' F'.ns (N'.get (List.Mem.head _)) fun b o n1 n2 ho => N'.get (List.Mem.tail _ (mem_ledger.mpr ⟨n2, n1, ho⟩))
end
end Att

namespace L2
open PySem PySem.Spec PyProof.Rows

theorem vals_ints : ∀ {vs : List Value} {ns : List Int}, IntsAre vs ns → Vals (ns.map V.int) vs
  | _, _, .nil => .nil
  | _, _, .cons n t h => .cons ⟨t, rfl⟩ (vals_ints h)

/-- nothing is tracked but the script, known to the object (or it is an object of the module) -/
def Only (H : Hp) : Prop := ∀ b, H b = none ∨ ∃ o xs, H b = some (.frz o (.lst xs))

/-- THE HEAD: the law's promise, at the heap behind the top. F, the promise of the law's def, may use that base is part of the heap (so K.In base, base.Ns mainGlobals mg stand in Mod) -/
theorem law_call {P : Program} {w : World} {K : PySem.W.Frag} {mg mb : Str → Option Value} {CX : CXT} {k : Nat} {fa a : Addr} {fd : FuncData} {x : Str} {sp : Sp} {s₁ : Shared} {vs : List Value} {ns : List Int}
    (KX : K.In s₁.heap) (hns : s₁.heap.Ns mainGlobals mg) (hb : s₁.heap.Ns builtinsNs mb) (hbb : ∀ x : Str, x ≠ "__name__" → mb x = bootBuiltins x) (hlim : s₁.heap.NoLimit) (hg : s₁.gens = #[])
    (ha : s₁.heap.get? a = some { cls := .type "list", data := .seq vs.toArray }) (hi : IntsAre vs ns) (hl : ns.length ≤ sizeLine) (hr : Room k callerA)
    (F : ∀ base : Heap, K.In base → base.Ns mainGlobals mg → FnOk P w K mg base CX k fa fd [x] sp) (hbind : ∀ (s : Shared) (u : Value), BindsTo s fd ⟨[u], []⟩ [(x, u)])
    (hsp : ∀ H : Hp, Only H → SqL K H a (ns.map V.int) → sp [.ref a] H (fun v _ => v = .bl true) fun _ _ _ => False)
    (hCX : ∀ H e s', CX [] H s₁ (fun _ _ _ => False) e s' → False) :
    codeAny (model P w) callerA (.call (.ref fa) ⟨[.ref a], []⟩) (fun r s' => r = .ok (.ret (.bool true)) ∧ OldK s₁.heap s'.heap ∧ s'.os = s₁.os ∧ AllBare s'.gens) s₁ := by
  have rv := vals_ints hi
  have lenV := hi.length
  -- from an abstract heap in which nothing but the script may be tracked
  have core : ∀ H : Hp, Only H → SqL K H a (ns.map V.int) → HOk P w H s₁.heap → (∀ b, H b ≠ none → b = a) → (H a ≠ none → K.lookup a = none) →
      codeAny (model P w) callerA (.call (.ref fa) ⟨[.ref a], []⟩) (fun r s' => r = .ok (.ret (.bool true)) ∧ OldK s₁.heap s'.heap ∧ s'.os = s₁.os ∧ AllBare s'.gens) s₁ := by
    intro H hO hS hok hA hK
    have base_of : ∀ {b : Addr} {o : Obj}, s₁.heap.get? b = some o → H b = none → (hidT s₁.heap H).get? b = some o := fun e n => hidT_get e n
    have noA : ∀ {b : Addr} {o : Obj} {es : Array DictEntry} {ep : Nat}, s₁.heap.get? b = some o → o.data = .dict es ep → H b = none := fun {b o es ep} e d => by
      cases q : H b with
      | none => rfl
      | some u =>
        have e' : b = a := hA b (by rw [q]; simp)
        subst e'
        rw [ha] at e; cases e
        have d' : Data.seq vs.toArray _ = Data.dict es ep := d
        cases d'
    have nsK : ∀ {b : Addr} {m : Str → Option Value}, s₁.heap.Ns b m → (hidT s₁.heap H).Ns b m := fun {b m} ⟨o, es, ep, e, d, r⟩ => ⟨o, es, ep, base_of e (noA e d), d, r⟩
    have hKb : K.In (hidT s₁.heap H) := fun b o e => base_of (KX b o e) (by
      cases q : H b with
      | none => rfl
      | some u =>
        have e' : b = a := hA b (by rw [q]; simp)
        subst e'
        rw [hK (by rw [q]; simp)] at e; cases e)
    have hM : Mod K mg (hidT s₁.heap H) := ⟨hKb, nsK hns, ⟨mb, nsK hb, hbb⟩, let ⟨mc, h1, h2⟩ := hlim; ⟨mc, nsK h1, h2⟩⟩
    have e0 : Env0 P w K mg (hidT s₁.heap H) callerA [] s₁ H := ⟨rfl, hM, fun b o e => of_hidT e, Nat.le_of_eq (hidT_size _ _), trivial, fun b hb => absurd (show b ∈ ([] : List Addr) from hb) (by simp), hok, .of_eq hg⟩
    refine codeAny_mono ((F _ hKb (nsK hns)).run callerA [] s₁ H ⟨[.ref a], []⟩ [.ref a] [.ref a] _ _ hr e0 (hbind s₁ (.ref a)) (.cons rfl .nil) (hsp H hO hS)) fun r s' h => ?_
    cases r with
    | error e => exact (hCX H e s' h).elim
    | ok fl =>
      cases fl with
      | next => exact False.elim h
      | brk => exact False.elim h
      | cont => exact False.elim h
      | ret u =>
        obtain ⟨v, H', os, bare, un, hok', r', q⟩ := h
        have q' : v = .bl true := q
        subst q'
        obtain rfl : u = Value.bool true := r'
        refine ⟨rfl, OldK.of_keep fun b o e => ?_, os, bare⟩
        cases q : H b with
        | none => exact un.keep b o e q (by intro z; exact absurd (show b ∈ ([] : List Addr) from z) (by simp)) (by simp)
        | some u =>
          rcases hO b with z | ⟨ob, xs, z⟩
          · rw [q] at z; cases z
          · have z2 := un.frzs b ob _ z
            obtain ⟨e1, _⟩ := hok b _ z
            obtain ⟨e2, _⟩ := hok' b _ z2
            rw [e] at e1; cases e1
            exact e2
  cases hk : K.lookup a with
  | some o =>
    -- the script is one of the module's own objects
    have e := KX a o hk
    rw [ha] at e
    cases e
    refine core (fun _ => none) (fun _ => .inl rfl) (.inr ⟨_, vs.toArray, _, hk, rfl, rfl, rfl, by rw [List.size_toArray, lenV]; exact hl, by simpa using rv⟩) (fun b u z => by have z' : (none : Option HO) = some u := z; cases z') (fun b z => absurd rfl z) fun z => absurd rfl z
  | none =>
    refine core (fun b => if b = a then some (.frz { cls := .type "list", data := .seq vs.toArray } (.lst (ns.map V.int))) else none) (fun b => ?_) (.inl (.inr ⟨{ cls := .type "list", data := .seq vs.toArray }, if_pos rfl⟩)) (fun b u z => ?_) (fun b z => ?_) fun _ => hk
    · by_cases hb : b = a
      · exact .inr ⟨_, _, if_pos hb⟩
      · exact .inl (if_neg hb)
    · by_cases hb : b = a
      · have z' := (if_pos hb).symm.trans z
        cases z'
        subst hb
        exact ⟨ha, by rw [List.length_map]; exact hl, vs, _, rv, ha⟩
      · have z' := (if_neg hb).symm.trans z
        cases z'
    · by_cases hb : b = a
      · exact hb
      · exact absurd (if_neg hb) z
end L2

namespace L2
open PySem PySem.Spec PyProof.Rows

abbrev KOf {K : PySem.W.Frag} {h : Heap} (_ : K.In h) : PySem.W.Frag := K

/-- the goal that k_head leaves (case hc), from the law's promise. F gives the function object fd (K's own) once, then the promise over every base -/
theorem walk_of {l : PySem.W.OpenLaw} {n k : Nat} {q : Program} {loose : List Str} {XP : (Str → Option Value) → Heap → Prop} {YP : World → Heap → Prop} {d : DefRec} {K : Params → PySem.W.Frag} {CX : World → CXT} {sp : World → Sp} {x : Str}
    (hn : l.most = some n) (hn2 : n ≤ sizeLine) (hdf : d.params.defaults = []) (hr : Room k callerA)
    (hY : ∀ (w : World) (h : Heap), YP w h → (K w.params).In h)
    (F : ∀ (w : World) (mg : Str → Option Value) (fa : Addr) (h : Heap), (K w.params).In h → h.Ns mainGlobals mg → mg d.name = some (.ref fa) →
      ∃ fd : FuncData, (∀ (s : Shared) (u : Value), BindsTo s fd ⟨[u], []⟩ [(x, u)]) ∧
        ∀ base : Heap, (K w.params).In base → base.Ns mainGlobals mg → FnOk l.prog w (K w.params) mg base (CX w) k fa fd [x] (sp w))
    (hsp : ∀ (w : World) (H : Hp) (a : Addr) (ns : List Int), ns.length ≤ n → Only H → SqL (K w.params) H a (ns.map V.int) → sp w [.ref a] H (fun v _ => v = .bl true) fun _ _ _ => False)
    (hCX : ∀ (w : World) (H : Hp) (s : Shared) (e : Value) (s' : Shared), CX w [] H s (fun _ _ _ => False) e s' → False) :
    PySem.W.WalkO q loose XP YP l.row.toRowW d [] (fun f vs => PySem.call f vs) := by
  refine Att.attach_call hn hdf fun w s₀ s₁ mg mb fa o pm cd doc a vs ns G Y ho hd hcd hmg hobj hints hlen hg => ?_
  have KX := hY w _ Y
  obtain ⟨fd, hb, hF⟩ := F w mg fa _ KX G.T.g hmg
  exact law_call KX G.T.g G.T.b G.T.builtins G.T.nolimit hg hobj hints (Nat.le_trans hlen hn2) hr hF hb (fun H hO hS => hsp w H a ns hlen hO hS) fun H e s' => hCX w H s₁ e s'
/-- the same where the promise hangs on the written part alone: (sp := My.sp_law), no hole under a binder -/
theorem walk_ofK {l : PySem.W.OpenLaw} {n k : Nat} {q : Program} {loose : List Str} {XP : (Str → Option Value) → Heap → Prop} {YP : World → Heap → Prop} {d : DefRec} {K : Params → PySem.W.Frag} {CX : CXT} {sp : PySem.W.Frag → Sp} {x : Str}
    (hn : l.most = some n) (hn2 : n ≤ sizeLine) (hdf : d.params.defaults = []) (hr : Room k callerA)
    (hY : ∀ (w : World) (h : Heap), YP w h → (K w.params).In h)
    (F : ∀ (w : World) (mg : Str → Option Value) (fa : Addr) (h : Heap), (K w.params).In h → h.Ns mainGlobals mg → mg d.name = some (.ref fa) →
      ∃ fd : FuncData, (∀ (s : Shared) (u : Value), BindsTo s fd ⟨[u], []⟩ [(x, u)]) ∧
        ∀ base : Heap, (K w.params).In base → base.Ns mainGlobals mg → FnOk l.prog w (K w.params) mg base CX k fa fd [x] (sp (K w.params)))
    (hsp : ∀ (K : PySem.W.Frag) (H : Hp) (a : Addr) (ns : List Int), ns.length ≤ n → Only H → SqL K H a (ns.map V.int) → sp K [.ref a] H (fun v _ => v = .bl true) fun _ _ _ => False)
    (hCX : ∀ (H : Hp) (s : Shared) (e : Value) (s' : Shared), CX [] H s (fun _ _ _ => False) e s' → False) :
    PySem.W.WalkO q loose XP YP l.row.toRowW d [] (fun f vs => PySem.call f vs) :=
  walk_of (K := K) (CX := fun _ => CX) (sp := fun w => sp (K w.params)) hn hn2 hdf hr hY F (fun w H a ns h1 h2 h3 => hsp (K w.params) H a ns h1 h2 h3) fun _ H s e s' => hCX H s e s'
end L2

/- THE LAST THEOREM (shape; LID, My.* are yours):
   My.Adr: a structure of the addresses that your layer names (classes, functions); My.Txt K t: a structure (Prop) of the equations over K;
   My.txt_mk : {K} {implicit addresses ..} (e1 : nsIn K mainGlobals "law" = some (some (.ref f))) (e2 : K.lookup f = some ⟨oc, od, .func (fnOf "law" "law" params body scope dV kV doc pm an cdv ct), sl⟩) (e3 : codeIn K cdv "law" = true) .. : ∃ t, My.Txt K t

set_option maxRecDepth 100000 in
set_option maxHeartbeats 0 in
theorem PySem.Challenge.cw_LID_holds : PySem.Challenge.rw_LID.Holds := by
  w_on; o_law; k_head; (case hw => w_witness2)
  k_fill
  refine L2.walk_of (l := PySem.Challenge.rw_LID) (n := 63) (k := 40) (x := "script") (CX := fun w => ..) (sp := fun _ => My.sp_law) rfl (by decide) rfl ⟨rfl, by decide, by decide⟩ (fun w h Y => PySem.W.kIn_of Y) ?F ?S ?C
  case F =>
    intro w mg fa h KX G hmg
    have T : ∃ t, My.Txt (L2.KOf KX) t := by
      dsimp only [L2.KOf]                          -- K must stand as «<heap const> w.params» for k_is
      refine' My.txt_mk ?e1 ?e2 ?e3 ..
      (case e1 => PySem.W.k_is)                    -- in the order: a name -> its address -> its object -> its parts
      (case e2 => PySem.W.k_is)
      ..
    obtain ⟨t, T⟩ := T
    have e0 := hmg.symm.trans (PySem.W.mg_of KX G T.law)
    cases e0                                       -- fa is the law's own address
    exact ⟨_, fun s u => .of_eq rfl, fun base kb nb => My.law_fn T kb nb⟩     -- if «.of_eq rfl» comes too early: refine' ⟨_, ?b, fun base kb nb => My.law_fn T kb nb⟩; exact fun s u => .of_eq rfl
  case S => exact fun w H a ns hl hO hS => ..
  case C => exact ..
(the tactic k_is has no namespace: write k_is) -/

/-! SHORT WORDS over the layer: a def of the text, its body, what a loop and a test want. -/
namespace L2
open PySem PySem.Spec PyProof.Rows

/-! ### the text by places -/
/-- the j-th statement of a class's body -/
def inClass (s : Stmt) (j : Nat) : Stmt := match s with
  | .ClassDef _ _ _ body _ _ _ _ _ _ _ => body.getD j (.Pass ⟨0, 0, 0, 0⟩)
  | _ => .Pass ⟨0, 0, 0, 0⟩
def defArgs (s : Stmt) : Arguments := match s with
  | .FunctionDef _ a _ _ _ _ _ _ _ _ => a
  | _ => { posonlyargs := [], args := [], vararg := none, kwonlyargs := [], kw_defaults := [], kwarg := none, defaults := [] }
def defBody (s : Stmt) : List Stmt := match s with
  | .FunctionDef _ _ b _ _ _ _ _ _ _ => b
  | _ => []
def defScope (s : Stmt) : Scope := match s with
  | .FunctionDef _ _ _ _ _ _ sc _ _ _ => sc
  | _ => { kind := .function, names := [], isGenerator := false, isCoroutine := false }

/-! ### no exception leaves a def -/
abbrev CX0 : CXT := fun _ _ _ _ _ _ => False
abbrev E0 : XK := fun _ _ _ => False
theorem pass0 {X : Cx} : Passes CX0 X E0 := fun _ _ _ _ _ _ _ h => h.elim

/-! ### a def (or method) of the text as it stands behind the top -/
structure Fun (K : PySem.W.Frag) (x qual : Str) (st : Stmt) (f : Addr) (fd : FuncData) : Prop where
  ex : ∃ (oc : Value) (od : Option Addr) (kV doc pm : Value) (an : Option Addr) (cdv ct : Value) (osl : Array (Option Value)),
    fd = PySem.W.fnOf x qual (defArgs st) (defBody st) (defScope st) .none kV doc pm an cdv ct ∧ K.lookup f = some ⟨oc, od, .func fd, osl⟩ ∧ PySem.W.codeIn K cdv qual = true
  kp : PySem.W.keepIn K (.ref f) = true
section
variable {P : Program} {w : World} {K : PySem.W.Frag} {mg : Str → Option Value} {base : Heap}
/-- THE RULE for a def: its body as a term of rules, and the reading of that term -/
theorem Fun.ok {x qual : Str} {st : Stmt} {f : Addr} {fd : FuncData} {N ps : List Str} {k : Nat} {sp : Sp} (F : Fun K x qual st f fd) (S : FnScope N ps (defScope st)) (len : ∀ vs H Q E, sp vs H Q E → vs.length = ps.length)
    (hbody : ∀ (cdv : Value) (A : Around) (outer : List Env) (s : Shared) (H : Hp) (vs : List V) (Q : VK) (E : XK), Room k (A.deeper (envOfC qual (defScope st) s.heap.objs.size f cdv)) → sp vs H Q E →
      ∃ t, PSs (cxOf CX0 P w K mg base N qual (defScope st) f cdv A outer s H E).nox (defBody st) t ∧ t { nx := fun _ H' => Q .non H', rt := Q } (start N vs) H) : FnOk P w K mg base CX0 (k + 1) f fd ps sp := by
  obtain ⟨oc, od, kV, doc, pm, an, cdv, ct, osl, rfl, lk, hcd⟩ := F.ex
  refine fn_of lk hcd S len fun A outer s H vs Q E hr hsp => ?_
  obtain ⟨t, h, q⟩ := hbody cdv A outer s H vs Q E hr hsp
  exact ⟨t, h.nox, q⟩
/-- how its arguments bind (no defaults): h is «fun _ _ _ _ _ _ us hl => match us, hl with | [_, _], _ => rfl», one _ a parameter -/
theorem Fun.binds {x qual : Str} {st : Stmt} {f : Addr} {fd : FuncData} {ps : List Str} (F : Fun K x qual st f fd)
    (h : ∀ (kV doc pm : Value) (an : Option Addr) (cdv ct : Value) (us : List Value), us.length = ps.length → bindArgs (PySem.W.fnOf x qual (defArgs st) (defBody st) (defScope st) .none kV doc pm an cdv ct) ⟨us, []⟩ = pure (ps.zip us)) : Binds K fd ps [] := by
  obtain ⟨oc, od, kV, doc, pm, an, cdv, ct, osl, rfl, lk, hcd⟩ := F.ex
  exact .all (h kV doc pm an cdv ct)
theorem fun_mk {x qual : Str} {st : Stmt} {f : Addr} {oc : Value} {od an : Option Addr} {osl : Array (Option Value)} {kV doc pm cdv ct : Value} (l : K.lookup f = some ⟨oc, od, .func (PySem.W.fnOf x qual (defArgs st) (defBody st) (defScope st) .none kV doc pm an cdv ct), osl⟩)
    (c : PySem.W.codeIn K cdv qual = true) (k : PySem.W.keepIn K (.ref f) = true) : Fun K x qual st f (PySem.W.fnOf x qual (defArgs st) (defBody st) (defScope st) .none kV doc pm an cdv ct) := ⟨⟨oc, od, kV, doc, pm, an, cdv, ct, osl, rfl, l, c⟩, k⟩
end
theorem hu_of {A : Around} {k : Nat} (hr : Room k A) : A.units + 1 < cLine := Nat.lt_of_le_of_lt (Nat.add_le_add_left (by decide : 1 ≤ 64) _) hr.units
theorem small1000 {n : Nat} (h : n ≤ 1000) : n < sizeLine := Nat.lt_of_le_of_lt h (by decide)

/-! ### expressions in short: the name that stands in the i-th slot -/
section
variable {X : Cx}
theorem pv (i : Nat) {x : Str} {pos : Pos} (hN : X.N[i]? = some x := by rfl) (hv : Vis X.env.scope x := by first | exact Or.inl rfl | exact Or.inr (Or.inl rfl) | exact Or.inr (Or.inr rfl)) (hd : (x == ("__debug__" : Str)) = false := by decide)
    (hcd : (x == ("__classdict__" : Str)) = false := by decide) : PE X (.Name x pos) (tVar i) := pe_var hN hv hd hcd
end

/-! ### tests -/
theorem iteF {A B : Prop} (h : B) : if false = true then A else B := by
  rw [if_neg Bool.false_ne_true]
  exact h
theorem iteT {A B : Prop} (h : A) : if true = true then A else B := by
  rw [if_pos rfl]
  exact h
theorem ite2 {c A B : Prop} [Decidable c] (h1 : c → A) (h2 : ¬ c → B) : if c then A else B := by
  by_cases h : c
  · rw [if_pos h]
    exact h1 h
  · rw [if_neg h]
    exact h2 h
theorem iteNS {c A B : Prop} [Decidable c] (hc : c) (h : B) : if (!decide c) = true then A else B := by
  rw [decide_eq_true hc]
  exact iteF h

/-! ### heaps -/
/-- all that was tracked is as it was -/
def Same (H H' : Hp) : Prop := ∀ b o, H b = some o → H' b = some o
theorem Same.refl (H : Hp) : Same H H := fun _ _ h => h
theorem Same.trans {H H1 H2 : Hp} (a : Same H H1) (b : Same H1 H2) : Same H H2 := fun c o h => b c o (a c o h)
theorem Same.free {H H' : Hp} (e : Same H H') {l : Addr} (h : H' l = Option.none) : H l = Option.none := by
  cases q : H l with
  | none => rfl
  | some o =>
    rw [e l o q] at h
    cases h
theorem Same.seq {K : PySem.W.Frag} {H H' : Hp} {a : Addr} {xs : List V} (e : Same H H') (h : SqL K H a xs) : SqL K H' a xs := by
  rcases h with (h | ⟨o, h⟩) | h
  · exact .inl (.inl (e _ _ h))
  · exact .inl (.inr ⟨o, e _ _ h⟩)
  · exact .inr h

end L2

set_option maxRecDepth 100000
set_option maxHeartbeats 4000000
namespace L2
open PySem PySem.Spec PyProof.Rows

/-! ### comprehensions -/
theorem closure_step (env : Env) : ∀ (names : List (Str × NameKind)) (acc : List (Str × Addr)),
    (∀ y ∈ names, y.2 = .free → ∃ c, env.cells.lookup y.1 = some c) → (∀ x c, acc.lookup x = some c → env.cells.lookup x = some c) →
    ∃ cl, (forIn names acc (fun (x : Str × NameKind) (r : List (Str × Addr)) => (do
        if x.2 == NameKind.free then do
          let a ← cellOf env x.1
          pure (ForInStep.yield ((x.1, a) :: r))
        else pure (ForInStep.yield r) : Sem (ForInStep (List (Str × Addr))))) : Sem (List (Str × Addr))) = pure cl ∧
      (∀ x c, cl.lookup x = some c → env.cells.lookup x = some c) ∧ (∀ x c, acc.lookup x = some c → ∃ d, cl.lookup x = some d) ∧ (∀ y ∈ names, y.2 = .free → ∃ c, cl.lookup y.1 = some c)
  | [], acc, _, h2 => ⟨acc, rfl, h2, fun x c h => ⟨c, h⟩, fun y hy => by cases hy⟩
  | (n, k) :: r, acc, h1, h2 => by
    by_cases hk : k = NameKind.free
    · subst hk
      obtain ⟨c, hc⟩ := h1 (n, .free) List.mem_cons_self rfl
      have h2' : ∀ x d, ((n, c) :: acc).lookup x = some d → env.cells.lookup x = some d := fun x d e => by
        rw [List.lookup_cons] at e
        split at e
        · rename_i q
          have q' : x = n := by simpa using q
          subst q'
          cases e
          exact hc
        · exact h2 x d e
      obtain ⟨cl, e, a1, a2, a3⟩ := closure_step env r ((n, c) :: acc) (fun y hy => h1 y (List.mem_cons_of_mem _ hy)) h2'
      refine ⟨cl, ?_, a1, fun x d e2 => ?_, fun y hy hf => ?_⟩
      · rw [List.forIn_cons]
        simp only [beq_self_eq_true, if_true]
        have hco : cellOf env n = pure c := by unfold cellOf; rw [hc]
        rw [hco]
        exact e
      · by_cases q : x = n
        · subst q
          exact a2 x c (by rw [List.lookup_cons]; simp)
        · exact a2 x d (by rw [List.lookup_cons, show (x == n) = false by simpa using q]; exact e2)
      · rcases List.mem_cons.mp hy with rfl | hy
        · exact a2 n c (by rw [List.lookup_cons]; simp)
        · exact a3 y hy hf
    · obtain ⟨cl, e, a1, a2, a3⟩ := closure_step env r acc (fun y hy => h1 y (List.mem_cons_of_mem _ hy)) h2
      refine ⟨cl, ?_, a1, a2, fun y hy hf => ?_⟩
      · rw [List.forIn_cons]
        have hb : (k == NameKind.free) = false := by simpa using hk
        simp only [hb, Bool.false_eq_true, if_false]
        exact e
      · rcases List.mem_cons.mp hy with rfl | hy
        · exact absurd hf hk
        · exact a3 y hy hf
theorem closure_ok {scope : Scope} {env : Env} (h : ∀ y ∈ scope.names, y.2 = .free → ∃ c, env.cells.lookup y.1 = some c) :
    ∃ cl, closureFor scope env = pure cl ∧ (∀ x c, cl.lookup x = some c → env.cells.lookup x = some c) ∧ (∀ y ∈ scope.names, y.2 = .free → ∃ c, cl.lookup y.1 = some c) := by
  obtain ⟨cl, e, a1, _, a3⟩ := closure_step env scope.names [] h (fun x c q => by cases q)
  refine ⟨cl, ?_, a1, a3⟩
  unfold closureFor
  exact (congrArg (fun m => m >>= fun r => (pure r : Sem (List (Str × Addr)))) e).trans rfl
end L2

set_option maxRecDepth 100000
set_option maxHeartbeats 4000000
namespace L2
open PySem PySem.Spec PyProof.Rows

/-- the tests of a comprehension's clause -/
abbrev ifsSem (ifs : List Expr) (env : Env) : Sem Bool :=
  forIn ifs true fun c r => if r = true then do let ok ← isTrue c env (eval c env); pure (ForInStep.yield ok) else pure (ForInStep.yield r)
def PIfs (X : Cx) (ifs : List Expr) (t : TT) : Prop :=
  ∀ (pins : List (Addr × Obj)) (s : Shared) (σ : St) (H : Hp) (Q : Bool → Hp → Prop), Inv X pins σ H s → t σ H Q → wpAny (model X.prog X.w) X.A (ifsSem ifs X.env) (TP X pins σ Q) X.xe s
def tTrue : TT := fun _ H Q => Q true H
theorem pifs_nil {X : Cx} : PIfs X [] tTrue := fun pins s σ H Q I h => wpAny_tests_nil ⟨H, I, h⟩
theorem pifs_one {X : Cx} {c : Expr} {t : TT} (h : PT X c t) : PIfs X [c] t := fun pins s σ H Q I hq => wpAny_tests_one (h pins s σ H Q I hq)

section
variable {prog : Program} {w : World} {A : Around} {R : Result → Shared → Prop} {s : Shared}
/-- a comprehension's loop, the pair's hand-out within -/
theorem compLoop_go {elt target iter : Expr} {ifs : List Expr} {scope : Scope} {pos : Pos} {it acc : Value} {env : Env} (I : Nat → Shared → Prop)
    (turn : ∀ n s, I n s → wpAny (model prog w) A (pyNext it) (fun r s₁ => match r with
      | none => R (.ok .next) s₁
      | some v => wpAny (model prog w) A (letOwnedTupleGo target it v) (fun _ s' => wpAny (model prog w) A (assign target env v) (fun _ s₂ =>
          wpAny (model prog w) A (ifsSem ifs env) (fun ok s₃ =>
            if ok = true then wpAny (model prog w) A (eval elt env) (fun x s₄ =>
              wpAny (model prog w) A (call (.builtin "list.append") [acc, x]) (fun _ s₅ => ∃ m, m < n ∧ I m s₅) (fun _ _ => False) s₄) (fun _ _ => False) s₃
            else ∃ m, m < n ∧ I m s₃) (fun _ _ => False) s₂) (fun _ _ => False) s') (fun _ _ => False) s₁) (fun _ _ => False) s)
    (n : Nat) (h : I n s) :
    codeAny (model prog w) A (.compLoop (.ListComp elt [⟨target, iter, ifs, 0⟩] scope pos) 0 it acc env) R s := by
  refine codeAny_loop rfl I (fun n s hI => ?_) n h
  show wpAny _ A ((compTurn (.ListComp elt [⟨target, iter, ifs, 0⟩] scope pos) 0 it acc env).onRaise (fun x => do noteFrame x env; theTreesLotGoes x)) _ _ s
  refine wpAny_noted ?_
  rw [compTurn_list]
  refine wpAny_bind (wpAny_standAt (wpAny_bind (wpAny_mono (turn n s hI) (fun r s₁ h₁ => ?_) fun _ _ h' => h'.elim)))
  cases r with
  | none => exact wpAny_pure h₁
  | some v =>
    refine wpAny_bind (wpAny_mono h₁ (fun _ s' h' => ?_) fun _ _ h' => h'.elim)
    refine wpAny_bind (wpAny_mono h' (fun _ s₂ h₂ => wpAny_bind (wpAny_mono h₂ (fun ok s₃ h₃ => ?_) fun _ _ h' => h'.elim)) fun _ _ h' => h'.elim)
    cases ok with
    | false => exact wpAny_pure ⟨rfl, h₃⟩
    | true =>
      exact wpAny_bind (wpAny_bind (wpAny_mono h₃ (fun x s₄ h₄ => wpAny_bind (wpAny_mono h₄ (fun _ s₅ h₅ => wpAny_pure (wpAny_pure ⟨rfl, h₅⟩)) fun _ _ h' => h'.elim)) fun _ _ h' => h'.elim))
end

/-- the context of a comprehension's block -/
abbrev cxComp (X : Cx) (N' : List Str) (scope : Scope) (cl : List (Str × Addr)) (C : Addr) (s₀ : Shared) (H₀ : Hp) (fp : List Addr) : Cx :=
  { X with N := N', env := compEnvC scope cl C X.env, s₀ := s₀, H₀ := H₀, outer := X.stack, ex := fp, fn := fun _ => false, pn := [], xe := fun _ _ => False }
structure CapOk (X : Cx) (N' : List Str) (scope : Scope) (cap : List (Option Nat)) : Prop where
  kind : scope.kind = .function
  cell : ∀ y ∈ scope.names, y.2 ≠ .cell
  names : ∀ y ∈ scope.names, y.2 = .local → scope.names.lookup y.1 = some .local
  frees : ∀ y ∈ scope.names, y.2 = .free → X.env.kindOf y.1 = some .cell ∨ X.env.kindOf y.1 = some .free
  len : cap.length = N'.length
  cap : ∀ (i j : Nat), cap[i]? = some (some j) → ∃ x, N'[i]? = some x ∧ X.N[j]? = some x ∧ scope.names.lookup x = some .free
def capS (cap : List (Option Nat)) (σ : St) : St := cap.map fun o => o.bind fun j => (σ[j]?).join

theorem lookup_mem {α β : Type} [BEq α] [LawfulBEq α] {l : List (α × β)} {a : α} {b : β} (h : l.lookup a = some b) : (a, b) ∈ l := by
  induction l with
  | nil => cases h
  | cons p r ih =>
    obtain ⟨x, y⟩ := p
    rw [List.lookup_cons] at h
    split at h
    · rename_i q
      have q' : a = x := by simpa using q
      subst q'
      cases h
      exact List.mem_cons_self
    · exact List.mem_cons_of_mem _ (ih h)
/-- the kinds of a comprehension's names -/
theorem relabel_kind {env : Env} : ∀ {names : List (Str × NameKind)} {x : Str} {k : NameKind}, (names.map fun (n, k) => if (k == NameKind.free && env.scope.kind == .function && env.kindOf n == some .cell) then (n, NameKind.cell) else (n, k)).lookup x = some k →
    (names.lookup x = some k) ∨ (k = .cell ∧ names.lookup x = some .free)
  | [], _, _, h => by cases h
  | (n, k0) :: r, x, k, h => by
    have ih := @relabel_kind env r x k
    have h' : List.lookup x ((if (k0 == NameKind.free && env.scope.kind == .function && env.kindOf n == some .cell) = true then (n, NameKind.cell) else (n, k0)) :: _) = some k := h
    by_cases hc : (k0 == NameKind.free && env.scope.kind == .function && env.kindOf n == some .cell) = true
    · rw [if_pos hc, List.lookup_cons] at h'
      have hf : k0 = .free := by
        simp only [Bool.and_eq_true, beq_iff_eq] at hc
        exact hc.1.1
      cases q : x == n with
      | true => rw [q] at h'; cases h'; exact .inr ⟨rfl, by rw [List.lookup_cons, q, hf]⟩
      | false => rw [q] at h'; rw [List.lookup_cons, q]; exact ih h'
    · rw [if_neg hc, List.lookup_cons] at h'
      cases q : x == n with
      | true => rw [q] at h'; rw [List.lookup_cons, q]; exact .inl h'
      | false => rw [q] at h'; rw [List.lookup_cons, q]; exact ih h'
theorem relabel_free {env : Env} : ∀ {names : List (Str × NameKind)} {x : Str}, names.lookup x = some .free →
    (names.map fun (n, k) => if (k == NameKind.free && env.scope.kind == .function && env.kindOf n == some .cell) then (n, NameKind.cell) else (n, k)).lookup x = some .cell ∨
    (names.map fun (n, k) => if (k == NameKind.free && env.scope.kind == .function && env.kindOf n == some .cell) then (n, NameKind.cell) else (n, k)).lookup x = some .free
  | [], _, h => by cases h
  | (n, k0) :: r, x, h => by
    have ih := @relabel_free env r x
    show List.lookup x ((if (k0 == NameKind.free && env.scope.kind == .function && env.kindOf n == some .cell) = true then (n, NameKind.cell) else (n, k0)) :: _) = _ ∨ List.lookup x ((if (k0 == NameKind.free && env.scope.kind == .function && env.kindOf n == some .cell) = true then (n, NameKind.cell) else (n, k0)) :: _) = _
    rw [List.lookup_cons] at h
    by_cases hc : (k0 == NameKind.free && env.scope.kind == .function && env.kindOf n == some .cell) = true
    · rw [if_pos hc, List.lookup_cons]
      cases q : x == n with
      | true => exact .inl rfl
      | false => rw [q] at h; exact ih h
    · rw [if_neg hc, List.lookup_cons]
      cases q : x == n with
      | true => rw [q] at h; exact .inr h
      | false => rw [q] at h; exact ih h

section
variable {X : Cx} {pins : List (Addr × Obj)} {σ : St} {H : Hp} {s : Shared} {N' : List Str} {scope : Scope} {cap : List (Option Nat)} {cl : List (Str × Addr)} {fp : List Addr}

/-- the block's start -/
theorem inv_comp (I : Inv X pins σ H s) (co : CapOk X N' scope cap) (h1 : ∀ x c, cl.lookup x = some c → X.env.cells.lookup x = some c) (h2 : ∀ y ∈ scope.names, y.2 = .free → ∃ c, cl.lookup y.1 = some c)
    (hf : ∀ b ∈ fp, FpOk X pins H b) (ho : ∀ b ∈ fp, ∃ o, s.heap.get? b = some o) {h' : Heap} {t' : Nat} {m : Str → Option Value} (hn : h'.Ns s.heap.objs.size m) (hk : ∀ b o, s.heap.get? b = some o → h'.get? b = some o) :
    Inv (cxComp X N' scope cl s.heap.objs.size s H fp) [] (capS cap σ) H { s with heap := h', toks := t' } := by
  have flt : ∀ b ∈ fp, b < s.heap.objs.size := fun b hb => let ⟨o, e⟩ := ho b hb; Heap.lt_size e
  refine ⟨⟨I.ok.mod, co.kind, I.ok.glob, I.ok.blt, Nat.le_refl _, fun x y c e1 e2 => I.ok.inj x y c (h1 x c e1) (h1 y c e2), fun x hx => ?_, fun x c z _ => (nomatch z), I.ok.hd, I.ok.frames, .inl rfl, fun b hb => ?_, I.bs, Nat.le_trans I.ok.bsz I.sz, fun b o e hb => ?_, fun b hb z => ?_, I.stack, I.stkFree⟩,
    rfl, I.bare, Un.kept hk, ⟨m, hn, fun i x v e1 e2 e3 => ?_⟩, fun x c e => ?_, I.hok.fresh (Nat.le_refl _), fun x c e => I.freeC x c (h1 x c e), fun p hp => (nomatch hp), I.hok.kept hk, ?_⟩
  · have hx' : (relabel scope X.env).names.lookup x = some .cell ∨ (relabel scope X.env).names.lookup x = some .free := hx
    have hfree : scope.names.lookup x = some .free := by
      rcases hx' with q | q
      · rcases relabel_kind q with z | ⟨_, z⟩
        · exact absurd rfl (co.cell _ (lookup_mem z))
        · exact z
      · rcases relabel_kind q with z | ⟨z, _⟩
        · exact z
        · cases z
    exact h2 (x, .free) (lookup_mem hfree) rfl
  · obtain ⟨f0, f1, f2, f3, f4, f5⟩ := hf b hb
    exact ⟨Nat.ne_of_lt (flt b hb), fun x c e => f4 x c (h1 x c e)⟩
  · obtain ⟨f0, f1, f2, f3, f4, f5⟩ := hf b hb
    rcases f3 with z | z
    · exact I.ok.noex b o e z
    · exact absurd (Nat.lt_of_lt_of_le (Heap.lt_size e) (Nat.le_trans I.ok.bsz z)) (Nat.lt_irrefl _)
  · obtain ⟨f0, f1, f2, f3, f4, f5⟩ := hf b hb
    rcases List.mem_cons.mp (I.stkSub b z) with q | q
    · exact f1 q
    · exact f2 q
  · -- a captured name
    have e2' : (cap.map fun o => o.bind fun j => (σ[j]?).join)[i]? = some (some v) := e2
    rw [List.getElem?_map] at e2'
    cases q : cap[i]? with
    | none => rw [q] at e2'; cases e2'
    | some o =>
      rw [q] at e2'
      cases o with
      | none => cases e2'
      | some j =>
        obtain ⟨y, a1, a2, a3⟩ := co.cap i j q
        have e1' : N'[i]? = some x := e1
        rw [a1] at e1'
        obtain rfl : y = x := Option.some.inj e1'
        have ej : (σ[j]?).join = some v := by
          have := e2'
          simp only [Option.map_some, Option.bind_some, Option.some.injEq] at this
          exact this
        have ej' : σ[j]? = some (some v) := by
          cases z : σ[j]? with
          | none => rw [z] at ej; cases ej
          | some u => rw [z] at ej; simp only [Option.join_some] at ej; rw [ej]
        have kd := co.frees (y, .free) (lookup_mem a3) rfl
        obtain ⟨m0, hn0, hl0⟩ := I.loc
        have vis : Vis X.env.scope y := by
          rcases kd with k | k
          · exact .inr (.inl k)
          · exact .inr (.inr k)
        obtain ⟨u, ru, lk⟩ := hl0 j y v a2 ej' vis
        refine ⟨u, ru, .inr ⟨relabel_free a3, ?_⟩⟩
        obtain ⟨c, hc⟩ := h2 (y, .free) (lookup_mem a3) rfl
        rcases lk with ⟨k, _⟩ | ⟨_, c', hc', z⟩
        · rcases kd with k' | k'
          · rw [k] at k'; cases k'
          · rw [k] at k'; cases k'
        · have := h1 _ _ hc
          rw [hc'] at this
          obtain rfl : c' = c := Option.some.inj this
          obtain ⟨o, eo, ed⟩ := z
          exact ⟨c', hc, o, hk _ _ eo, ed⟩
  · obtain ⟨v, o, eo, ed⟩ := I.cell x c (h1 x c e)
    exact ⟨v, o, hk _ _ eo, ed⟩
  · show (cap.map _).length = N'.length
    rw [List.length_map]; exact co.len

/-- behind the block: the comprehension's own frame let go -/
theorem inv_behind {N' : List Str} {C : Addr} {H' : Hp} {s' : Shared} {σ' : St} {h' : Heap} (I : Inv X pins σ H s) (hf : ∀ b ∈ fp, FpOk X pins H b) (J : Inv (cxComp X N' scope cl C s H fp) [] σ' H' s') (hs : Heap.SameBut C s'.heap h') :
    Inv X pins σ H' { s' with heap := h' } := by
  have hC : s.heap.objs.size ≤ C := J.ok.above
  have kp : ∀ b o, b ≠ C → s'.heap.get? b = some o → h'.get? b = some o := fun b o hb e => (hs.2 b hb).trans e
  have hC0 : H' C = none := J.free
  have un : Un (frs X.stack) fp H H' s.heap h' := by
    have u : Un (frs X.stack) fp H H' s.heap s'.heap := J.base
    have neC : ∀ b o, s.heap.get? b = some o → b ≠ C := fun b o e => Nat.ne_of_lt (Nat.lt_of_lt_of_le (Heap.lt_size e) hC)
    exact ⟨fun b o e n h1 h2 => kp b o (neC b o e) (u.keep b o e n h1 h2), fun b o e n h1 h2 => let ⟨sl, q⟩ := u.slot b o e n h1 h2; ⟨sl, kp b _ (neC b o e) q⟩, u.free, fun b o e h => let ⟨o', q⟩ := u.there b o e h; ⟨o', kp b o' (neC b o e) q⟩, u.tups, u.frzs, u.tbls⟩
  have hok : HOk X.prog X.w H' h' := fun b u e => by
    refine (J.hok b u e).stay (fun c v hc q => kp c v ?_ q) (fun _ q => q) fun _ _ q => q
    rcases hc with z | z
    · rw [z]; intro z2; rw [z2, hC0] at e; cases e
    · intro z2; rw [z2, hC0] at z; cases z
  exact I.call' (s' := { s' with heap := h' }) (ch := fp) J.os un hok J.bare fun b hb => by
    obtain ⟨f0, f1, f2, f3, f4, f5⟩ := hf b hb
    exact ⟨f3, f1, f4, f5⟩
end
end L2

set_option maxRecDepth 100000
set_option maxHeartbeats 4000000
namespace L2
open PySem PySem.Spec PyProof.Rows

/-- a comprehension's reading behind its iterator -/
def cmpW (J : It) (cap : List (Option Nat)) (g : TG) (tc : TT) (te : TE) (σ : St) (H1 : Hp) (p : Addr) (K : Hp → Prop) : Prop :=
  ∃ W : Nat → Nat → St → Hp → Prop, (∃ m, W 0 m (capS cap σ) (upd H1 p (.lst []))) ∧ ∀ i m σ' H', W i m σ' H' →
    (J.stop i H' ∧ K H') ∨ (J.go i H' ∧ ∀ x H'', J.yld i H' x H'' → g x σ' H'' fun σ2 H2 => tc σ2 H2 fun b H3 =>
      if b = true then te σ2 H3 fun y H4 => ∃ xs, H4 p = some (.lst xs) ∧ xs.length < sizeLine ∧ ∃ m', m' < m ∧ W (i + 1) m' σ2 (upd H4 p (.lst (xs ++ [y])))
      else ∃ m', m' < m ∧ W (i + 1) m' σ2 H3)
def tComp (wi : TI) (cap : List (Option Nat)) (g : TG) (tc : TT) (te : TE) : TE := fun σ H Q => wi σ H fun J H1 => ∀ p, H1 p = none → cmpW J cap g tc te σ H1 p (Q (.ref p))

section
variable {X : Cx} {N' : List Str} {scope : Scope} {cap : List (Option Nat)} {tg iter elt : Expr} {ifs : List Expr} {wi : TI} {g : TG} {tc : TT} {te : TE} {pos : Pos}

/-- the block from the iterator on -/
theorem comp_core {cl : List (Str × Addr)} {pins : List (Addr × Obj)} {s : Shared} {σ : St} {H : Hp} {it : Addr} {fp : List Addr} {tn : Nat → Heap → Prop} {J : It} {E : Value → Shared → Prop} {K : Addr → Hp → Prop}
    {RR : Value → Addr → Result → Shared → Prop} (hc : X.calm = true) (co : CapOk X N' scope cap)
    (h1 : ∀ x c, cl.lookup x = some c → X.env.cells.lookup x = some c) (h2 : ∀ y ∈ scope.names, y.2 = .free → ∃ c, cl.lookup y.1 = some c)
    (hg : ∀ cl C s₀ H₀ fp, PG (cxComp X N' scope cl C s₀ H₀ fp) tg g) (hcs : ∀ cl C s₀ H₀ fp, PIfs (cxComp X N' scope cl C s₀ H₀ fp) ifs tc) (he : ∀ cl C s₀ H₀ fp, PE (cxComp X N' scope cl C s₀ H₀ fp) elt te)
    (I : Inv X pins σ H s) (T : Turn X.prog X.w X.K tg J fp it tn) (st : tn 0 s.heap) (hf : ∀ b ∈ fp, FpOk X pins H b) (h : ∀ p, H p = none → cmpW J cap g tc te σ H p (K p))
    (hRR : ∀ (D C : Addr) (s' : Shared) (H' : Hp), s.heap.objs.size ≤ C → (∃ m, s'.heap.Ns C m) → (∀ h', Heap.SameBut C s'.heap h' → Inv X pins σ H' { s' with heap := h' }) → H' C = none → K D H' → RR (.ref D) C (.ok .next) s') :
    wpAny (model X.prog X.w) X.A (newList []) (fun acc s₃ => wpAny (model X.prog X.w) X.A (newFunctionEnv scope X.env.globals cl [] X.env.qual none .none (some X.env)) (fun cenv s₄ =>
      codeAny (model X.prog X.w) X.A (.compStart (.ListComp elt [⟨tg, iter, ifs, 0⟩] scope pos) 0 (.ref it) acc { cenv with scope := relabel scope X.env }) (RR acc cenv.locals) s₄) E s₃) E s := by
  refine wpAny_newObj_type (wpAny_newFunctionEnv co.cell (by intro y hy; simp at hy) (fun hh hns hsb => ?_) co.kind)
  have hD : H s.heap.objs.size = none := I.fresh
  have I3 : Inv X pins σ (upd H s.heap.objs.size (.lst [])) { s with heap := s.heap.push { cls := .type "list", dict := none, data := .seq ([] : List Value).toArray } } := I.lnew (ys := []) (its := []) (t' := s.toks) .nil (Nat.zero_le _)
  obtain ⟨W, ⟨m0, w0⟩, turn⟩ := h s.heap.objs.size hD
  have fobj : ∀ b ∈ fp, ∃ o, s.heap.get? b = some o := fun b hb => let ⟨o, e, _⟩ := T.obj 0 _ st b hb; ⟨o, e⟩
  generalize e3 : ({ s with heap := s.heap.push { cls := .type "list", dict := none, data := .seq ([] : List Value).toArray } } : Shared) = s3 at I3
  have es3 : s3.heap = s.heap.push { cls := .type "list", dict := none, data := .seq ([] : List Value).toArray } := by rw [← e3]
  have eC : (s.heap.push { cls := .type "list", dict := none, data := .seq ([] : List Value).toArray }).objs.size = s3.heap.objs.size := by rw [es3]
  have hf3 : ∀ b ∈ fp, FpOk X pins (upd H s.heap.objs.size (.lst [])) b := fun b hb => by
    obtain ⟨f0, f1⟩ := hf b hb
    obtain ⟨o, e⟩ := fobj b hb
    exact ⟨by rw [upd_ne (Nat.ne_of_lt (Heap.lt_size e))]; exact f0, f1⟩
  have kp : ∀ b o, s3.heap.get? b = some o → hh.get? b = some o := fun b o e => by
    refine hsb.extBut b o ?_ (Heap.get?_push_of_some _ (by rw [← es3]; exact e))
    show b ≠ (s.heap.push { cls := .type "list", dict := none, data := .seq ([] : List Value).toArray }).objs.size
    rw [eC]
    exact Nat.ne_of_lt (Heap.lt_size e)
  have hle : s.heap.objs.size ≤ s3.heap.objs.size := by rw [es3, Heap.size_push]; exact Nat.le_succ _
  have s3e : ∀ t : Nat, ({ s with heap := hh, toks := t } : Shared) = { s3 with heap := hh, toks := t } := fun t => by rw [← e3]
  have I4 : Inv (cxComp X N' scope cl s3.heap.objs.size s3 (upd H s.heap.objs.size (.lst [])) fp) [] (capS cap σ) (upd H s.heap.objs.size (.lst [])) { s3 with heap := hh, toks := s.toks + ([] : List (Str × Value)).length } :=
    inv_comp I3 co h1 h2 hf3 (fun b hb => let ⟨o, e⟩ := fobj b hb; ⟨o, by rw [es3]; exact Heap.get?_push_of_some _ e⟩) (by rw [← eC]; exact hns) kp
  have st4 : tn 0 hh := T.keep 0 _ _ st fun b hb o e => kp b o (by rw [es3]; exact Heap.get?_push_of_some _ e)
  have etk : s3.toks + ([] : List (Str × Value)).length = s.toks + ([] : List (Str × Value)).length := by rw [← e3]
  show codeAny (model X.prog X.w) X.A (.compStart (.ListComp elt [⟨tg, iter, ifs, 0⟩] scope pos) 0 (.ref it) (.ref s.heap.objs.size) (compEnvC scope cl s3.heap.objs.size X.env)) (RR (.ref s.heap.objs.size) s3.heap.objs.size)
    { s3 with heap := hh, toks := s3.toks + ([] : List (Str × Value)).length }
  rw [etk]
  generalize eX : cxComp X N' scope cl s3.heap.objs.size s3 (upd H s.heap.objs.size (.lst [])) fp = X' at I4
  have hg' : PG X' tg g := by rw [← eX]; exact hg _ _ _ _ _
  have hcs' : PIfs X' ifs tc := by rw [← eX]; exact hcs _ _ _ _ _
  have he' : PE X' elt te := by rw [← eX]; exact he _ _ _ _ _
  have eenv : X'.env = compEnvC scope cl s3.heap.objs.size X.env := by rw [← eX]
  have exe : X'.xe = fun _ _ => False := by rw [← eX]
  have eex : X'.ex = fp := by rw [← eX]
  have eprog : X'.prog = X.prog := by rw [← eX]
  have ew : X'.w = X.w := by rw [← eX]
  have eK : X'.K = X.K := by rw [← eX]
  have eA : X'.A = X.A := by rw [← eX]
  have ecalm : X'.calm = true := by rw [← eX]; exact hc
  have epn : X'.pn = [] := by rw [← eX]
  have eloc : X'.env.locals = s3.heap.objs.size := by rw [eenv]; rfl
  have ok' := I4.ok
  have stat : ∀ {H' : Hp}, (∀ b ∈ fp, H' b = none) → ∀ b ∈ fp, FpOk X' [] H' b := fun hn b hb => by
    have hbx : b ∈ X'.ex := by rw [eex]; exact hb
    exact ⟨hn b hb, (ok'.exf b hbx).1, ok'.exfs b hbx, .inl hbx, (ok'.exf b hbx).2, fun p hp => by rw [epn] at hp; cases hp⟩
  have back : ∀ {σ' : St} {H' : Hp} {s' : Shared}, Inv X' [] σ' H' s' → K s.heap.objs.size H' → RR (.ref s.heap.objs.size) s3.heap.objs.size (.ok .next) s' := fun {σ' H' s'} J' k => by
    refine hRR _ _ _ H' hle ?_ (fun h' hs' => ?_) ?_ k
    · obtain ⟨m, hm, _⟩ := J'.loc
      exact ⟨m, by rw [← eloc]; exact hm⟩
    · rw [← eX] at J'
      exact inv_behind I3 hf3 J' hs'
    · rw [← eloc]; exact J'.free
  have loop : codeAny (model X.prog X.w) X.A (.compLoop (.ListComp elt [⟨tg, iter, ifs, 0⟩] scope pos) 0 (.ref it) (.ref s.heap.objs.size) (compEnvC scope cl s3.heap.objs.size X.env)) (RR (.ref s.heap.objs.size) s3.heap.objs.size)
      { s3 with heap := hh, toks := s.toks + ([] : List (Str × Value)).length } := by
    refine compLoop_go (fun n s' => ∃ i σ' H', Inv X' [] σ' H' s' ∧ tn i s'.heap ∧ (∀ b ∈ fp, H' b = none) ∧ W i n σ' H') ?_ m0 ⟨0, _, _, I4, st4, fun b hb => (hf3 b hb).1, w0⟩
    rintro n s5 ⟨i, σ5, H5, I5, st5, fr5, w5⟩
    rw [← eenv]
    rcases turn i n σ5 H5 w5 with ⟨stop, qn⟩ | ⟨go, step⟩
    · have := T.done X' eprog ew eK ecalm i [] s5 σ5 H5 (fun _ _ => False) I5 (stat fr5) st5 stop
      rw [eA] at this
      refine thn this fun r s6 ⟨hr, I6⟩ => ?_
      subst hr
      exact back I6 qn
    · have := T.item X' eprog ew eK ecalm i [] s5 σ5 H5 (fun _ _ => False) I5 (stat fr5) st5 go
      rw [eA] at this
      refine thn this fun r s6 ⟨u, hr, h6⟩ => ?_
      subst hr
      refine thn h6 fun _ s7 ⟨x, H7, I7, r7, y7, st7, fr7⟩ => ?_
      have I7' := I7.pinned (stat fr7) (T.obj _ _ st7)
      have hg2 := hg' _ s7 σ5 H7 x u _ I7' r7 (step x H7 y7)
      rw [exe, eprog, ew, eA] at hg2
      refine thn hg2 fun _ s8 ⟨σ8, H8, I8, q8⟩ => ?_
      have hc2 := hcs' _ s8 σ8 H8 _ I8 q8
      rw [exe, eprog, ew, eA] at hc2
      refine thn hc2 fun ok s9 ⟨H9, I9, q9⟩ => ?_
      have again : ∀ {H' : Hp} {s' : Shared} {m' : Nat}, Inv X' ([] ++ pinsAt fp s7.heap) σ8 H' s' → m' < n → W (i + 1) m' σ8 H' → ∃ m, m < n ∧ ∃ i σ' H', Inv X' [] σ' H' s' ∧ tn i s'.heap ∧ (∀ b ∈ fp, H' b = none) ∧ W i m σ' H' := fun {H' s' m'} J' hm w' => by
        refine ⟨m', hm, i + 1, σ8, H', J'.unpinned, T.keep _ _ _ st7 fun b hb o e => (J'.pin (b, o) (List.mem_append_right _ (List.mem_append_right _ (mem_pinsAt hb e)))).1, fun b hb => ?_, w'⟩
        obtain ⟨o, e, d⟩ := T.obj _ _ st7 b hb
        exact (J'.pin (b, o) (List.mem_append_right _ (List.mem_append_right _ (mem_pinsAt hb e)))).2.1
      cases ok with
      | false =>
        rw [if_neg Bool.false_ne_true] at q9 ⊢
        obtain ⟨m', hm, w'⟩ := q9
        exact again I9 hm w'
      | true =>
        rw [if_pos rfl] at q9 ⊢
        have he2 := he' _ s9 σ8 H9 _ I9 q9
        rw [exe, eprog, ew, eA] at he2
        refine thn he2 fun y s10 ⟨yv, H10, I10, r10, xs, hp, hz, m', hm, w'⟩ => ?_
        have ha2 := mt_append (X := X') ([] ++ pinsAt fp s7.heap) s10 σ8 H10 (.ref s.heap.objs.size) [yv] (.ref s.heap.objs.size) [y] (fun _ H' => H' = upd H10 s.heap.objs.size (.lst (xs ++ [yv]))) I10 rfl (.cons r10 .nil) ⟨_, xs, yv, rfl, rfl, hp, hz, rfl⟩
        rw [exe, eprog, ew, eA] at ha2
        refine thn ha2 fun _ s11 ⟨_, H11, I11, _, e11⟩ => ?_
        subst e11
        exact again I11 hm w'
  exact codeAny_compStart_list loop (T.self _ 0 _ _ _ st4 loop)

theorem pe_comp (hc : X.calm = true) (co : CapOk X N' scope cap) (hi : PI X tg iter wi)
    (hg : ∀ cl C s₀ H₀ fp, PG (cxComp X N' scope cl C s₀ H₀ fp) tg g) (hcs : ∀ cl C s₀ H₀ fp, PIfs (cxComp X N' scope cl C s₀ H₀ fp) ifs tc) (he : ∀ cl C s₀ H₀ fp, PE (cxComp X N' scope cl C s₀ H₀ fp) elt te)
    (hs : ∀ x, foldedSetIterable iter X.env x = pure x := by intro _; rfl) : PE X (.ListComp elt [⟨tg, iter, ifs, 0⟩] scope pos) (tComp wi cap g tc te) := by
  intro pins s σ H Q I h
  obtain ⟨cl, ecl, c1, c2⟩ := closure_ok (scope := scope) (env := X.env) fun y hy hf => I.ok.has y.1 (co.frees y hy hf)
  rw [eval_ListComp]
  refine wpAny_comprehension_free (use := none) rfl hs ecl co.kind co.names (wpAny_mono (hi pins s σ H _ I h) (fun v s1 h1 => wpAny_mono h1 (fun itv s2 h2 => ?_) fun _ _ e => e) fun _ _ e => e)
  obtain ⟨it, fp, tn, J, H2, rfl, I2, T, st2, f2, h2⟩ := h2
  refine comp_core (K := fun p => Q (.ref p)) (RR := fun acc C => compPost (model X.prog X.w) X.A X.xe none (EP X pins σ Q) acc C) hc co c1 c2 hg hcs he I2 T st2 f2 h2 ?_
  intro D C s' H' hle ⟨m, hm⟩ hI hC q
  exact ⟨m, hm, fun h' hs' => ⟨.ref D, H', hI h' hs', rfl, q⟩⟩
end
end L2

set_option maxRecDepth 100000
set_option maxHeartbeats 4000000
namespace L2
open PySem PySem.Spec PyProof.Rows
section
variable {X : Cx} {N' : List Str} {scope : Scope} {cap : List (Option Nat)} {tg iter elt : Expr} {ifs : List Expr} {wi : TI} {g : TG} {tc : TT} {te : TE} {pos : Pos}
/-- x = [.. for ..], the store ahead of the frame's end -/
theorem ps_setComp {i : Nat} {x : Str} {px pe : Pos} (hc : X.calm = true) (hN : X.N.Nodup) (hx0 : X.N[i]? = some x) (hx : X.env.scope.names.lookup x = some .local) (co : CapOk X N' scope cap) (hi : PI X tg iter wi)
    (hg : ∀ cl C s₀ H₀ fp, PG (cxComp X N' scope cl C s₀ H₀ fp) tg g) (hcs : ∀ cl C s₀ H₀ fp, PIfs (cxComp X N' scope cl C s₀ H₀ fp) ifs tc) (he : ∀ cl C s₀ H₀ fp, PE (cxComp X N' scope cl C s₀ H₀ fp) elt te)
    (hsw : swapsWith (.ListComp elt [⟨tg, iter, ifs, 0⟩] scope pe) (some (.Name x px)) pos.line X.env = pure true := by rfl)
    (hs : ∀ x, foldedSetIterable iter X.env x = pure x := by intro _; rfl) : PS X (.Assign [.Name x px] (.ListComp elt [⟨tg, iter, ifs, 0⟩] scope pe) pos) (tAsg (tComp wi cap g tc te) (gName i)) := by
  intro pins s σ H D I h
  obtain ⟨cl, ecl, c1, c2⟩ := closure_ok (scope := scope) (env := X.env) fun y hy hf => I.ok.has y.1 (co.frees y hy hf)
  rw [exec_Assign_Name_used _ _ _ _ hsw]
  refine wpAny_bind (wpAny_standAt (wpAny_bind ?_))
  show wpAny _ X.A (do let _ ← comprehension (.ListComp elt [⟨tg, iter, ifs, 0⟩] scope pe) scope X.env _ (newList []) false (eval iter X.env) (some (assign (.Name x px) X.env))) _ _ s
  refine wpAny_bind (wpAny_mono (wpAny_comprehension_free (use := some (assign (.Name x px) X.env)) (Q := fun _ s' => SP X pins D .next s') rfl hs ecl co.kind co.names
    (wpAny_mono (hi pins s σ H _ I h) (fun v s1 h1 => wpAny_mono h1 (fun itv s2 h2 => ?_) fun _ _ e => e) fun _ _ e => e)) (fun _ s' hq => wpAny_pure (wpAny_pure hq)) fun _ _ e => e)
  obtain ⟨it, fp, tn, J, H2, rfl, I2, T, st2, f2, h2⟩ := h2
  refine comp_core (K := fun p H' => gName i (.ref p) σ H' D.nx) (RR := fun acc C => compPost (model X.prog X.w) X.A X.xe (some (assign (.Name x px) X.env)) (fun _ s' => SP X pins D .next s') acc C) hc co c1 c2 hg hcs he I2 T st2 f2 h2 ?_
  intro Da C s' H' hle ⟨m, hm⟩ hI hC q
  have I' : Inv X pins σ H' s' := hI s'.heap (Heap.SameBut.refl ..)
  obtain ⟨o, es, ep, ho, hd, hk⟩ := id hm
  have hCL : C ≠ X.env.locals := Nat.ne_of_gt (Nat.lt_of_lt_of_le I2.lt hle)
  have hCf : C ∉ X.fs := I2.nofs hle
  have I'' : Inv X (pins ++ [(C, o)]) σ H' s' := I'.pins_of fun p hp => (List.mem_append.mp hp).elim (fun z => I'.pin p (List.mem_append_right _ z)) fun z => by
    obtain rfl : p = (C, o) := by simpa using z
    exact ⟨ho, hC, hCL, hCf, fun v z => by rw [hd] at z; cases z⟩
  show wpAny (model X.prog X.w) X.A (assign (.Name x px) X.env (.ref Da)) _ _ _
  refine wpAny_assign_Name (store_ok I'' hN hx0 (.inl hx) (v := .ref Da) rfl (fun s'' J => ?_) (.inr hx))
  have hC2 : s''.heap.get? C = some o := (J.pin (C, o) (List.mem_append_right _ (List.mem_append_right _ List.mem_cons_self))).1
  refine ⟨m, ⟨o, es, ep, hC2, hd, hk⟩, fun h' hs' => ?_⟩
  have J2 : Inv X pins (σ.set i (some (.ref Da))) H' { s'' with heap := h' } := J.unpinned.turned (t' := s''.toks) (it := C) (fun b ob hb e => (hs'.2 b hb).trans e) hC hCL
    (.inr (Nat.le_trans I2.sz hle)) (fun y c e z => by
      obtain ⟨v, q2⟩ := I2.cell y c e
      exact absurd (Nat.lt_of_lt_of_le q2.lt (by rw [z]; exact hle)) (Nat.lt_irrefl _)) fun p hp z => by
      exact absurd (Nat.lt_of_lt_of_le (Heap.lt_size (I2.pin p hp).1) (by rw [z]; exact hle)) (Nat.lt_irrefl _)
  exact ⟨_, H', J2, q⟩
end
end L2

set_option maxRecDepth 100000
set_option maxHeartbeats 4000000
namespace DL
open PySem PySem.Spec PyProof.Rows L2
/-! ### isinstance(e, C), e an exception of an own class -/
structure ExcC (K : PySem.W.Frag) (D : Addr) : Prop where
  ga : PySem.W.findIn K (.ref D) "__getattribute__" = some (some (.builtin "BaseException.__getattribute__"))
  gk : PySem.W.findIn K (.ref D) "__getattr__" = some none
  cc : PySem.W.findIn K (.ref D) "__class__" = some (some (.builtin "object.__class__"))
  cs : PySem.W.specialIn K (.builtin "object.__class__") "__get__" = some (some (.builtin "getset_descriptor.__get__"))
  ct : PySem.W.takesIn K (.builtin "object.__class__") = some true
  cm : PySem.W.mroIn K D (.type "object") = some true
  cb : PySem.W.mroIn K D (.type "BaseException") = some true
section
variable {prog : Program} {w : World} {A : Around} {E : Value → Shared → Prop} {K : PySem.W.Frag} {s : Shared} {x D : Addr} {ox : Obj}
open PySem.W in
theorem xc_some (c : ExcC K D) : (clsIn K D).isSome = true := by
  have := c.cm
  unfold mroIn at this
  cases q : clsIn K D with
  | none => rw [q] at this; cases this
  | some cd => rfl
/-- the exception as it lies in the heap: its class -/
def XE (a C : Addr) (h : Heap) : Prop := ∃ o vs, h.get? a = some o ∧ o.cls = .ref C ∧ o.data = .fields vs
open PySem.W in
theorem xe_type {M : Model} {a C : Addr} {h : Heap} (e : XE a C h) : Looks M h (typeOf (.ref a)) (.ref C) := by
  obtain ⟨o, vs, e1, e2, e3⟩ := e
  exact e2 ▸ (Looks.ld e1).andThen .now
open PySem.W Builtin.ObjectAttr in
theorem xc_find {M : Model} {h : Heap} (c : ExcC K D) (X : K.In h) : Looks M h (find (.ref x) (.ref D) "__class__") (.bind (.builtin "getset_descriptor.__get__") (.builtin "object.__class__")) := by
  refine (looks_findIn (M := M) X c.cc).andThen ((looks_specialIn (M := M) X c.cs).andThen ?_)
  exact (show Looks M h (dataDescriptor? (some (.builtin "object.__class__")) (some (.builtin "getset_descriptor.__get__"))) (some (.builtin "getset_descriptor.__get__", .builtin "object.__class__")) from (looks_takesIn (M := M) X c.ct).andThen .now).andThen (Looks.tag .now)
open PySem.W Builtin Builtin.ObjectAttr Builtin.Getset_descriptor in
theorem xc_get {tp : Value} {R : Result → Shared → Prop} (c : ExcC K D) (X : K.In s.heap) (I : XE x D s.heap) (h : R (.ok (.ret (.ref D))) s) :
    codeAny (model prog w) A (.call (.builtin "getset_descriptor.__get__") ⟨[.builtin "object.__class__", .ref x, tp], []⟩) R s := by
  obtain ⟨hh, g, dr, t, os⟩ := s
  have L0 := xe_type (M := model prog w) I
  have L1 := looks_mroIn (M := model prog w) X c.cm
  refine codeAny_call_builtin KF.slot_gs.plain KF.entry_gs (KF.slot_gs.check _ _ _ _ _ _ _ _ KF.type_class (KF.args_gs _ _ _) ?_)
  unfold Builtin.«getset_descriptor.__get__» descrGet
  rw [dga_obj]
  refine wpAny_bind (wpAny_pure ?_)
  unfold descrGetter descrCheckInstance descrNameAndClass isInstance
  simp only [KF.owner_class]
  repeat lk
  refine ⟨Code.quiet_builtin _ (by decide +kernel), codeAny_builtin KF.entry_class ?_⟩
  unfold Builtin.«object.__class__» shownTypeOf
  repeat lk
  exact h
open PySem.W in
theorem xc_entry {tk : Tok} {Q : Fin → Shared → Prop} (c : ExcC K D) (X : K.In s.heap) (I : XE x D s.heap) (hq : Q (.done (.ret (.ref D))) s) :
    wpAny (model prog w) A (Builtin.«object.__getattribute__» ⟨[.ref x, .str "__class__" tk], []⟩) Q E s := by
  obtain ⟨hh, g, dr, t, os⟩ := s
  have L0 := xe_type (M := model prog w) I
  have L1 := xc_find (x := x) (M := model prog w) c X
  unfold Builtin.«object.__getattribute__»
  refine wpAny_bind (wpAny_pure (wpAny_bind (wpAny_pure (wpAny_bind (L0.at (wpAny_bind (L1.at ?_)))))))
  show wpAny _ _ (Builtin.ObjectAttr.bindTo _ _ _ _) _ _ _
  unfold Builtin.ObjectAttr.bindTo
  refine wpAny_bind (wpAny_holding (wpAny_call (xc_get c X I ?_)))
  exact wpAny_pure hq
open PySem.W in
theorem xc_check {M : Model} {nameV : Value} {Q : Unit → Shared → Prop} (c : ExcC K D) (X : K.In s.heap) (I : XE x D s.heap) (hq : Q () s) : wpAny M A (checkBuiltinCall "BaseException.__getattribute__" ⟨[.ref x, nameV], []⟩) Q E s := by
  obtain ⟨hh, g, dr, t, os⟩ := s
  have L0 := xe_type (M := M) I
  have L1 := looks_mroIn (M := M) X c.cb
  have hk : builtinKind "BaseException.__getattribute__" = some .slot := by decide +kernel
  have hsplit : splitId "BaseException.__getattribute__" = some ("BaseException", "__getattribute__") := by decide +kernel
  have ha := F.args_bexc_ga (.ref x) nameV
  simp only [checkBuiltinCall, hk, hsplit]
  refine wpAny_bind ?_
  unfold isInstance
  refine wpAny_bind (L0.at (L1.at ?_))
  repeat (first | wp_step)
  exact hq
open PySem.W in
theorem xc_class {Q : Option Value → Shared → Prop} (c : ExcC K D) (X : K.In s.heap) (I : XE x D s.heap) (h : Q (some (.ref D)) { s with toks := s.toks + 1 }) : wpAny (model prog w) A (getAttr? (.ref x) "__class__") Q E s := by
  obtain ⟨hh, g, dr, t, os⟩ := s
  have L0 := xe_type (M := model prog w) I
  have L1 := looks_findIn (M := model prog w) X c.ga
  have L2 := looks_findIn (M := model prog w) X c.gk
  have f3 := PySem.F.attrBase_ValueError.ga.bind (.ref x)
  unfold getAttr? getAttrBy? getAttrBy
  refine wpAny_bind (wpAny_mkText (wpAny_bind (wpAny_attempt (wpAny_holding (wpAny_bind (L0.at (wpAny_bind (L1.at ?_))))))))
  show wpAny _ _ (getAttrByItsOwn _ _ _ _ _ _) _ _ _
  unfold getAttrByItsOwn hookBefore
  rw [if_pos (show onTheHeap (Value.ref D) = true from rfl)]
  refine wpAny_bind (L2.at ?_)
  refine wpAny_bind (wpAny_attempt (wpAny_holding ?_))
  unfold callGetattribute boundAndCalled
  rw [if_neg (by decide)]
  rw [f3]
  refine wpAny_bind (wpAny_pure ?_)
  refine wpAny_call (codeAny_call_builtin PySem.F.attrBase_ValueError.ga.plain F.entry_bexc_ga (xc_check c X I (xc_entry c X I ?_)))
  dsimp only
  exact handed_on rfl (wpAny_pure h)
theorem kitx_exc (c : ExcC K D) : PySem.W.KitX K (.ref x) (.ref D) (XE x D) where
  ty := fun M h _ e => xe_type e
  it := fun _ _ X _ => by
    obtain ⟨cdD, hcD⟩ := Option.isSome_iff_exists.mp (xc_some c)
    unfold PySem.W.clsIn at hcD
    split at hcD
    · rename_i c' d' cd' sl' ho
      intro A' Q' E' s' k q
      unfold isType loadHead
      exact wpAny_bind (wpAny_loadPart (k _ _ (X _ _ ho)) (wpAny_pure q))
    · cases hcD
  ne := fun h tp dd its n sl X htp => by
    obtain ⟨cdD, hcD⟩ := Option.isSome_iff_exists.mp (xc_some c)
    refine Bool.eq_false_iff.mpr fun q => ?_
    have e : D = tp := Value.ref.inj (beq_iff_eq.mp q)
    subst e
    unfold PySem.W.clsIn at hcD
    split at hcD
    · rename_i c' d' cd' sl' ho
      have z := (X _ _ ho).symm.trans htp
      cases z
    · cases hcD
  ca := fun X e k => xc_class c X e k
end
/-- the class of an exception: what isinstance asks of it -/
def ClsX (K : PySem.W.Frag) (C : Addr) : Prop := ExcC K C ∧ ∀ T : String, T ∈ ["int", "bool", "tuple", "list", "str", "dict"] → PySem.W.kitOne K (.ref C) (.type T) = some false
end DL

set_option maxRecDepth 100000
set_option maxHeartbeats 4000000
namespace DL
open PySem PySem.Spec PyProof.Rows L2

/-- a datum -/
inductive D where
  | non
  | bl (b : Bool)
  | int (i : Int)
  | str (x : Str)
  | tup (ds : List D)
  | lst (ds : List D)
  | dct (ks : List Key) (vs : List D)
  | dtt (ks : List (List Int)) (vs : List D)
  | obj (x : Str)
  | exc (x : Str)

abbrev Frag := PySem.W.Frag
abbrev St := L2.St

/-- a class of the program's own, under no built-in one but object -/
def ClsN (K : Frag) (C : Addr) : Prop := PySem.W.plainGet K C "__class__" = true ∧ PySem.W.hasDictIn K C = true ∧ PySem.W.findIn K (.ref C) "__class__" = some (some (.builtin "object.__class__")) ∧
  PySem.W.specialIn K (.builtin "object.__class__") "__get__" = some (some (.builtin "getset_descriptor.__get__")) ∧ PySem.W.takesIn K (.builtin "object.__class__") = some true ∧ PySem.W.mroIn K C (.type "object") = some true ∧
  ∀ T : String, T ∈ ["int", "bool", "tuple", "list", "str", "dict"] → PySem.W.kitOne K (.ref C) (.type T) = some false
/-- a dict whose keys are tuples of ints: its entries -/
def entI (x : List Int × Addr × Value) : DictEntry := ⟨reduceHash (Builtin.Tuple.tupleHashOf (x.1.map hashInt)), .ref x.2.1, x.2.2⟩
def DE (a : Addr) (xs : List (List Int × Addr × Value)) (h : Heap) : Prop := ∃ o es ep, h.get? a = some o ∧ o.ExactDict ∧ o.data = .dict es ep ∧ es.toList = xs.map entI
mutual
/-- v stands for the datum in the heap H -/
def Rep (K : Frag) (H : Hp) : D → V → Prop
  | .non, v => v = .non
  | .bl b, v => v = .bl b
  | .int i, v => v = .int i
  | .str x, v => v = .str x
  | .tup ds, v => ∃ a xs, v = .ref a ∧ SqT K H a xs ∧ RepL K H ds xs
  | .lst ds, v => ∃ a xs, v = .ref a ∧ SqL K H a xs ∧ RepL K H ds xs
  | .dct ks vs, v => ∃ a xs, v = .ref a ∧ H a = some (.dK (ks.zip xs)) ∧ ks.length = xs.length ∧ RepL K H vs xs
  | .dtt ks vs, v => ∃ a xs ys, v = .ref a ∧ H a = some (.ext (DE a xs)) ∧ xs.map (·.1) = ks ∧ ks.Nodup ∧ xs.length ≤ sizeLine ∧ (a == sysModules) = false ∧ (∀ x ∈ xs, SqT K H x.2.1 (x.1.map V.int)) ∧ Vals ys (xs.map fun x => x.2.2) ∧ RepL K H vs ys
  | .obj x, v => ∃ a dx C, v = .ref a ∧ H a = some (.ins C dx []) ∧ PySem.W.nsIn K mainGlobals x = some (some (.ref C)) ∧ ClsN K C
  | .exc x, v => ∃ a C, v = .ref a ∧ H a = some (.ext (XE a C)) ∧ PySem.W.nsIn K mainGlobals x = some (some (.ref C)) ∧ ClsX K C
def RepL (K : Frag) (H : Hp) : List D → List V → Prop
  | [], xs => xs = []
  | d :: ds, xs => ∃ x r, xs = x :: r ∧ Rep K H d x ∧ RepL K H ds r
end

theorem same_seqT {K : Frag} {H H' : Hp} {a : Addr} {xs : List V} (e : Same H H') (h : SqT K H a xs) : SqT K H' a xs := by
  rcases h with (h | ⟨o, h⟩) | h
  · exact .inl (.inl (e _ _ h))
  · exact .inl (.inr ⟨o, e _ _ h⟩)
  · exact .inr h
mutual
theorem Rep.mono {K : Frag} {H H' : Hp} (e : Same H H') : ∀ {d : D} {v : V}, Rep K H d v → Rep K H' d v
  | .non, v, h => by simpa only [Rep] using h
  | .bl b, v, h => by simpa only [Rep] using h
  | .int i, v, h => by simpa only [Rep] using h
  | .str x, v, h => by simpa only [Rep] using h
  | .tup ds, v, h => by
    simp only [Rep] at h ⊢
    obtain ⟨a, xs, e1, e2, e3⟩ := h
    exact ⟨a, xs, e1, same_seqT e e2, RepL.mono e e3⟩
  | .lst ds, v, h => by
    simp only [Rep] at h ⊢
    obtain ⟨a, xs, e1, e2, e3⟩ := h
    exact ⟨a, xs, e1, e.seq e2, RepL.mono e e3⟩
  | .dct ks vs, v, h => by
    simp only [Rep] at h ⊢
    obtain ⟨a, xs, e1, e2, e3, e4⟩ := h
    exact ⟨a, xs, e1, e _ _ e2, e3, RepL.mono e e4⟩
  | .dtt ks vs, v, h => by
    simp only [Rep] at h ⊢
    obtain ⟨a, xs, ys, e1, e2, e3, e4, e5, e6, e7, e8, e9⟩ := h
    exact ⟨a, xs, ys, e1, e _ _ e2, e3, e4, e5, e6, fun x hx => same_seqT e (e7 x hx), e8, RepL.mono e e9⟩
  | .obj x, v, h => by
    simp only [Rep] at h ⊢
    obtain ⟨a, dx, C, e1, e2, e3⟩ := h
    exact ⟨a, dx, C, e1, e _ _ e2, e3⟩
  | .exc x, v, h => by
    simp only [Rep] at h ⊢
    obtain ⟨a, C, e1, e2, e3⟩ := h
    exact ⟨a, C, e1, e _ _ e2, e3⟩
theorem RepL.mono {K : Frag} {H H' : Hp} (e : Same H H') : ∀ {ds : List D} {xs : List V}, RepL K H ds xs → RepL K H' ds xs
  | [], xs, h => by simpa only [RepL] using h
  | d :: ds, xs, h => by
    simp only [RepL] at h ⊢
    obtain ⟨x, r, e1, e2, e3⟩ := h
    exact ⟨x, r, e1, Rep.mono e e2, RepL.mono e e3⟩
end
section
variable {K : Frag} {H : Hp}
theorem RepL.nil : RepL K H [] [] := by simp only [RepL]
theorem RepL.cons {d : D} {ds : List D} {x : V} {xs : List V} (h : Rep K H d x) (t : RepL K H ds xs) : RepL K H (d :: ds) (x :: xs) := by
  simp only [RepL]; exact ⟨x, xs, rfl, h, t⟩
theorem RepL.nil_inv {xs : List V} (h : RepL K H [] xs) : xs = [] := by simpa only [RepL] using h
theorem RepL.cons_inv {d : D} {ds : List D} {xs : List V} (h : RepL K H (d :: ds) xs) : ∃ x r, xs = x :: r ∧ Rep K H d x ∧ RepL K H ds r := by simpa only [RepL] using h
theorem RepL.length : ∀ {ds : List D} {xs : List V}, RepL K H ds xs → ds.length = xs.length
  | [], xs, h => by rw [h.nil_inv]; rfl
  | d :: ds, xs, h => by
    obtain ⟨x, r, rfl, _, t⟩ := h.cons_inv
    simp [RepL.length t]
theorem RepL.append : ∀ {ds es : List D} {xs ys : List V}, RepL K H ds xs → RepL K H es ys → RepL K H (ds ++ es) (xs ++ ys)
  | [], es, xs, ys, h, t => by rw [h.nil_inv]; exact t
  | d :: ds, es, xs, ys, h, t => by
    obtain ⟨x, r, rfl, h1, h2⟩ := h.cons_inv
    exact .cons h1 (RepL.append h2 t)
theorem RepL.get : ∀ {ds : List D} {xs : List V} {i : Nat} {d : D}, RepL K H ds xs → ds[i]? = some d → ∃ x, xs[i]? = some x ∧ Rep K H d x
  | [], xs, i, d, h, e => by simp at e
  | d :: ds, xs, 0, d', h, e => by
    obtain ⟨x, r, rfl, h1, h2⟩ := h.cons_inv
    simp at e; subst e
    exact ⟨x, rfl, h1⟩
  | d :: ds, xs, i + 1, d', h, e => by
    obtain ⟨x, r, rfl, h1, h2⟩ := h.cons_inv
    obtain ⟨y, e1, e2⟩ := RepL.get (i := i) h2 (by simpa using e)
    exact ⟨y, by simpa using e1, e2⟩
theorem RepL.take : ∀ {ds : List D} {xs : List V} (n : Nat), RepL K H ds xs → RepL K H (ds.take n) (xs.take n)
  | _, _, 0, _ => by simp only [List.take_zero]; exact .nil
  | [], xs, n + 1, h => by rw [h.nil_inv]; exact .nil
  | d :: ds, xs, n + 1, h => by
    obtain ⟨x, r, rfl, h1, h2⟩ := h.cons_inv
    exact .cons h1 (RepL.take n h2)
theorem RepL.drop : ∀ {ds : List D} {xs : List V} (n : Nat), RepL K H ds xs → RepL K H (ds.drop n) (xs.drop n)
  | ds, xs, 0, h => by simpa only [List.drop_zero] using h
  | [], xs, n + 1, h => by rw [h.nil_inv]; exact .nil
  | d :: ds, xs, n + 1, h => by
    obtain ⟨x, r, rfl, h1, h2⟩ := h.cons_inv
    exact RepL.drop n h2
theorem RepL.ints : ∀ {ns : List Int} {xs : List V}, RepL K H (ns.map D.int) xs ↔ xs = ns.map V.int
  | [], xs => by simp only [List.map_nil, RepL]
  | n :: ns, xs => by
    simp only [List.map_cons, RepL]
    constructor
    · rintro ⟨x, r, rfl, h1, h2⟩
      simp only [Rep] at h1
      rw [h1, RepL.ints.mp h2]
    · rintro rfl
      exact ⟨_, _, rfl, by simp only [Rep], RepL.ints.mpr rfl⟩
theorem rep_int {i : Int} {v : V} : Rep K H (.int i) v ↔ v = .int i := by simp only [Rep]
theorem rep_bl {i : Bool} {v : V} : Rep K H (.bl i) v ↔ v = .bl i := by simp only [Rep]
theorem rep_str {i : Str} {v : V} : Rep K H (.str i) v ↔ v = .str i := by simp only [Rep]
theorem rep_non {v : V} : Rep K H .non v ↔ v = .non := by simp only [Rep]
theorem rep_tup {ds : List D} {v : V} : Rep K H (.tup ds) v ↔ ∃ a xs, v = .ref a ∧ SqT K H a xs ∧ RepL K H ds xs := by simp only [Rep]
theorem rep_lst {ds : List D} {v : V} : Rep K H (.lst ds) v ↔ ∃ a xs, v = .ref a ∧ SqL K H a xs ∧ RepL K H ds xs := by simp only [Rep]
theorem rep_dct {ks : List Key} {vs : List D} {v : V} : Rep K H (.dct ks vs) v ↔ ∃ a xs, v = .ref a ∧ H a = some (.dK (ks.zip xs)) ∧ ks.length = xs.length ∧ RepL K H vs xs := by simp only [Rep]
theorem rep_dtt {ks : List (List Int)} {vs : List D} {v : V} : Rep K H (.dtt ks vs) v ↔ ∃ a xs ys, v = .ref a ∧ H a = some (.ext (DE a xs)) ∧ xs.map (·.1) = ks ∧ ks.Nodup ∧ xs.length ≤ sizeLine ∧ (a == sysModules) = false ∧ (∀ x ∈ xs, SqT K H x.2.1 (x.1.map V.int)) ∧ Vals ys (xs.map fun x => x.2.2) ∧ RepL K H vs ys := by simp only [Rep]
theorem rep_exc {x : Str} {v : V} : Rep K H (.exc x) v ↔ ∃ a C, v = .ref a ∧ H a = some (.ext (XE a C)) ∧ PySem.W.nsIn K mainGlobals x = some (some (.ref C)) ∧ ClsX K C := by simp only [Rep]
theorem rep_obj {x : Str} {v : V} : Rep K H (.obj x) v ↔ ∃ a dx C, v = .ref a ∧ H a = some (.ins C dx []) ∧ PySem.W.nsIn K mainGlobals x = some (some (.ref C)) ∧ ClsN K C := by simp only [Rep]
end

/-! ### the tables of code objects that grow where a lambda is read -/
/-- the tables that may grow, each with the name that the lambdas there bear -/
class Lam where
  tab : List (Addr × Str)
variable [Lam]
def Tab (H : Hp) : Prop := ∀ p ∈ Lam.tab, ∃ ps, H p.1 = some (.tbl ps) ∧ TriplesOk ps.toList ∧ ∀ pos cv, codeAmong pos ps.toList = some cv → ∃ c φ, cv = .ref c ∧ H c = some (.ext φ) ∧ ∀ h, φ h → h.CodeRec (.ref c) p.2
def TabF (F : Hp) : Prop := ∀ p ∈ Lam.tab, F p.1 = none
theorem Tab.upd {H : Hp} (t : Tab H) {p : Addr} {o : HO} (h : H p = none ∨ ∃ xs, H p = some (.lst xs)) : Tab (upd H p o) := fun q hq => by
  have ne : ∀ c u, H c = some u → (∀ xs, u ≠ .lst xs) → c ≠ p := fun c u e n z => by
    subst z
    rcases h with h | ⟨xs, h⟩
    · rw [h] at e; cases e
    · rw [h] at e; exact n xs (Option.some.inj e).symm
  obtain ⟨ps, e, ht, k⟩ := t q hq
  refine ⟨ps, by rw [upd_ne (ne _ _ e nofun)]; exact e, ht, fun pos cv z => ?_⟩
  obtain ⟨c, φ, e1, e2, e3⟩ := k pos cv z
  exact ⟨c, φ, e1, by rw [upd_ne (ne _ _ e2 nofun)]; exact e2, e3⟩
/-- what a step keeps of all that is tracked -/
structure Kept (H H' : Hp) : Prop where
  lst : ∀ b xs, H b = some (.lst xs) → H' b = some (.lst xs)
  ext : ∀ b φ, H b = some (.ext φ) → H' b = some (.ext φ)
  free : ∀ {b}, H' b = none → H b = none
  tb : Tab H → Tab H'
theorem Kept.refl (H : Hp) : Kept H H := ⟨fun _ _ e => e, fun _ _ e => e, fun e => e, fun t => t⟩
theorem Kept.trans {H H1 H2 : Hp} (a : Kept H H1) (b : Kept H1 H2) : Kept H H2 := ⟨fun c xs e => b.lst c xs (a.lst c xs e), fun c φ e => b.ext c φ (a.ext c φ e), fun e => a.free (b.free e), fun t => b.tb (a.tb t)⟩
theorem Kept.new {H : Hp} {p : Addr} {o : HO} (hp : H p = none) : Kept H (upd H p o) := ⟨fun b xs e => by rw [upd_ne (ne_of_none e hp)]; exact e, fun b φ e => by rw [upd_ne (ne_of_none e hp)]; exact e, fun {b} e => by
  by_cases z : b = p
  · subst z; exact hp
  · rw [upd_ne z] at e; exact e, fun t => t.upd (.inl hp)⟩
/-- F is part of H, the tables are held -/
structure SameT (F H : Hp) : Prop where
  s : Same F H
  t : Tab H
  f : TabF F
/-! ### heaps that grow: F is what is frozen, H all -/
structure Grow (F H F' H' : Hp) : Prop where
  ff : Same F F'
  hh : Kept H H'
  fh : Same F' H'
  nw : ∀ b, F' b ≠ none → F b ≠ none ∨ H b = none
theorem Grow.refl {F H : Hp} (h : Same F H) : Grow F H F H := ⟨.refl _, .refl _, h, fun _ h => .inl h⟩
theorem Grow.trans {F H F1 H1 F2 H2 : Hp} (a : Grow F H F1 H1) (b : Grow F1 H1 F2 H2) : Grow F H F2 H2 :=
  ⟨a.ff.trans b.ff, a.hh.trans b.hh, b.fh, fun c h => (b.nw c h).elim (fun z => a.nw c z) fun z => .inr (a.hh.free z)⟩
theorem same_upd {H : Hp} {p : Addr} {o : HO} (h : H p = none) : Same H (upd H p o) := fun b u q => by rw [upd_ne (ne_of_none q h)]; exact q
theorem same_upd2 {F H : Hp} {p : Addr} {o : HO} (h : Same F H) : Same (upd F p o) (upd H p o) := fun b u q => by
  unfold upd at q ⊢
  split
  · rename_i z; rw [if_pos z] at q; exact q
  · rename_i z; rw [if_neg z] at q; exact h _ _ q
/-- a new object, frozen -/
theorem Grow.new {F H : Hp} {p : Addr} {o : HO} (h : Same F H) (hp : H p = none) : Grow F H (upd F p o) (upd H p o) :=
  ⟨same_upd (h.free hp), .new hp, same_upd2 h, fun b hb => by
    by_cases e : b = p
    · subst e; exact .inr hp
    · rw [upd_ne e] at hb; exact .inl hb⟩
/-- a new object, not frozen -/
theorem Grow.own {F H : Hp} {p : Addr} {o : HO} (h : Same F H) (hp : H p = none) : Grow F H F (upd H p o) :=
  ⟨.refl _, .new hp, h.trans (same_upd hp), fun _ h => .inl h⟩

/-- what a slot holds: a frozen datum, or a list of this frame's own -/
inductive B where
  | fz (d : D)
  | ow (ds : List D)
abbrev Rho := List (Option B)

structure RS (K : Frag) (F0 H0 F H : Hp) (σ : St) (ρ : Rho) : Prop where
  t0 : Tab H0 ∧ TabF F0
  g : Grow F0 H0 F H
  len : σ.length = ρ.length
  fz : ∀ (i : Nat) (d : D), ρ[i]? = some (some (.fz d)) → ∃ v, σ[i]? = some (some v) ∧ Rep K F d v
  ow : ∀ (i : Nat) (ds : List D), ρ[i]? = some (some (.ow ds)) → ∃ a xs, σ[i]? = some (some (.ref a)) ∧ H a = some (.lst xs) ∧ F a = none ∧ H0 a = none ∧ RepL K F ds xs
  dj : ∀ (i j : Nat) (ds es : List D) (a : Addr), i ≠ j → ρ[i]? = some (some (.ow ds)) → ρ[j]? = some (some (.ow es)) → σ[i]? = some (some (.ref a)) → σ[j]? ≠ some (some (.ref a))

section
variable {K : Frag} {F0 H0 F H F' H' : Hp} {σ : St} {ρ : Rho}
theorem RS.fh (r : RS K F0 H0 F H σ ρ) : Same F H := r.g.fh
theorem RS.tab (r : RS K F0 H0 F H σ ρ) : Tab H := r.g.hh.tb r.t0.1
theorem RS.tabF (r : RS K F0 H0 F H σ ρ) : TabF F := fun p hp => by
  cases q : F p.1 with
  | none => rfl
  | some o =>
    rcases r.g.nw p.1 (by rw [q]; simp) with z | z
    · exact absurd (r.t0.2 p hp) z
    · obtain ⟨ps, e, _⟩ := r.t0.1 p hp
      rw [e] at z; cases z
theorem RS.grow (r : RS K F0 H0 F H σ ρ) (g : Grow F H F' H') : RS K F0 H0 F' H' σ ρ where
  t0 := r.t0
  g := r.g.trans g
  len := r.len
  fz := fun i d e => let ⟨v, e1, e2⟩ := r.fz i d e; ⟨v, e1, e2.mono g.ff⟩
  ow := fun i ds e => by
    obtain ⟨a, xs, e1, e2, e3, e4, e5⟩ := r.ow i ds e
    refine ⟨a, xs, e1, g.hh.lst _ _ e2, ?_, e4, e5.mono g.ff⟩
    cases q : F' a with
    | none => rfl
    | some o =>
      rcases g.nw a (by rw [q]; simp) with z | z
      · exact absurd e3 z
      · rw [e2] at z; cases z
  dj := r.dj
theorem RS.sameT (r : RS K F0 H0 F H σ ρ) (g : Grow F H F' H') : SameT F' H' := ⟨g.fh, (r.grow g).tab, (r.grow g).tabF⟩
theorem get_set_eq {α : Type} {l : List α} {i : Nat} {x y : α} (h : (l.set i x)[i]? = some y) : y = x ∧ i < l.length := by
  rw [List.getElem?_set] at h
  simp only [if_true] at h
  split at h
  · exact ⟨(Option.some.inj h).symm, by assumption⟩
  · cases h
/-- a frozen datum is stored -/
theorem RS.set (r : RS K F0 H0 F H σ ρ) {d : D} {v : V} (i : Nat) (h : Rep K F d v) : RS K F0 H0 F H (σ.set i (some v)) (ρ.set i (some (.fz d))) where
  t0 := r.t0
  g := r.g
  len := by rw [List.length_set, List.length_set]; exact r.len
  fz := fun j e h1 => by
    by_cases q : j = i
    · subst q
      obtain ⟨z, l⟩ := get_set_eq h1
      cases z
      exact ⟨v, by rw [List.getElem?_set]; simp [r.len, l], h⟩
    · rw [List.getElem?_set_ne (Ne.symm q)] at h1 ⊢
      exact r.fz j e h1
  ow := fun j ds h1 => by
    by_cases q : j = i
    · subst q
      obtain ⟨z, l⟩ := get_set_eq h1
      cases z
    · rw [List.getElem?_set_ne (Ne.symm q)] at h1 ⊢
      exact r.ow j ds h1
  dj := fun j k ds es a hjk h1 h2 h3 => by
    by_cases q : j = i
    · subst q
      obtain ⟨z, l⟩ := get_set_eq h1
      cases z
    · by_cases q2 : k = i
      · subst q2
        obtain ⟨z, l⟩ := get_set_eq h2
        cases z
      · rw [List.getElem?_set_ne (Ne.symm q)] at h1 h3
        rw [List.getElem?_set_ne (Ne.symm q2)] at h2 ⊢
        exact r.dj j k ds es a hjk h1 h2 h3
/-- a list of the frame's own is stored -/
theorem RS.setO (r : RS K F0 H0 F H σ ρ) {ds : List D} {xs : List V} {a : Addr} (i : Nat) (h1 : H a = some (.lst xs)) (h2 : F a = none) (h3 : H0 a = none) (h4 : RepL K F ds xs)
    (h5 : ∀ (j : Nat) (es : List D), ρ[j]? = some (some (.ow es)) → σ[j]? ≠ some (some (.ref a))) : RS K F0 H0 F H (σ.set i (some (.ref a))) (ρ.set i (some (.ow ds))) where
  t0 := r.t0
  g := r.g
  len := by rw [List.length_set, List.length_set]; exact r.len
  fz := fun j e q1 => by
    by_cases q : j = i
    · subst q
      obtain ⟨z, l⟩ := get_set_eq q1
      cases z
    · rw [List.getElem?_set_ne (Ne.symm q)] at q1 ⊢
      exact r.fz j e q1
  ow := fun j es q1 => by
    by_cases q : j = i
    · subst q
      obtain ⟨z, l⟩ := get_set_eq q1
      cases z
      exact ⟨a, xs, by rw [List.getElem?_set]; simp [r.len, l], h1, h2, h3, h4⟩
    · rw [List.getElem?_set_ne (Ne.symm q)] at q1 ⊢
      exact r.ow j es q1
  dj := fun j k ds' es b hjk q1 q2 q3 => by
    by_cases q : j = i
    · subst q
      have e3 := get_set_eq q3
      have eb : b = a := by have := e3.1; simpa using this
      subst eb
      rw [List.getElem?_set_ne hjk] at q2 ⊢
      exact h5 k es q2
    · rw [List.getElem?_set_ne (Ne.symm q)] at q1 q3
      by_cases q4 : k = i
      · subst q4
        intro z
        have eb : b = a := by have := (get_set_eq z).1; simpa using this
        subst eb
        exact h5 j ds' q1 q3
      · rw [List.getElem?_set_ne (Ne.symm q4)] at q2 ⊢
        exact r.dj j k ds' es b hjk q1 q2 q3
/-- the list of the frame's own at slot i is rewritten -/
theorem RS.wrt (r : RS K F0 H0 F H σ ρ) {ds es : List D} {ys : List V} {a : Addr} {i : Nat} (h1 : ρ[i]? = some (some (.ow ds))) (h2 : σ[i]? = some (some (.ref a))) (h4 : RepL K F es ys) :
    RS K F0 H0 F (upd H a (.lst ys)) σ (ρ.set i (some (.ow es))) := by
  obtain ⟨a', xs, e1, e2, e3, e4, e5⟩ := r.ow i ds h1
  rw [h2] at e1
  obtain rfl : a = a' := by simpa using e1
  have nF : ∀ b o, F b = some o → b ≠ a := fun b o e z => by subst z; rw [e3] at e; cases e
  exact {
    t0 := r.t0
    g := ⟨r.g.ff, ⟨fun b o e => by rw [upd_ne (fun z => by subst z; rw [e4] at e; cases e)]; exact r.g.hh.lst b o e, fun b o e => by rw [upd_ne (fun z => by subst z; rw [e4] at e; cases e)]; exact r.g.hh.ext b o e, fun {b} e => by
        by_cases z : b = a
        · subst z; exact e4
        · rw [upd_ne z] at e; exact r.g.hh.free e, fun t => (r.g.hh.tb t).upd (.inr ⟨_, e2⟩)⟩, fun b o e => by rw [upd_ne (nF b o e)]; exact r.g.fh b o e, r.g.nw⟩
    len := by rw [List.length_set]; exact r.len
    fz := fun j e q1 => by
      by_cases q : j = i
      · subst q
        obtain ⟨z, l⟩ := get_set_eq q1
        cases z
      · rw [List.getElem?_set_ne (Ne.symm q)] at q1
        exact r.fz j e q1
    ow := fun j es' q1 => by
      by_cases q : j = i
      · subst q
        obtain ⟨z, l⟩ := get_set_eq q1
        cases z
        exact ⟨a, ys, h2, upd_same, e3, e4, h4⟩
      · rw [List.getElem?_set_ne (Ne.symm q)] at q1
        obtain ⟨b, zs, f1, f2, f3, f4, f5⟩ := r.ow j es' q1
        have hb : b ≠ a := fun z => by
          subst z
          exact r.dj i j ds es' b (Ne.symm q) h1 q1 h2 f1
        exact ⟨b, zs, f1, by rw [upd_ne hb]; exact f2, f3, f4, f5⟩
    dj := fun j k ds' es' b hjk q1 q2 q3 => by
      have back : ∀ (l : Nat) (us : List D), (ρ.set i (some (.ow es)))[l]? = some (some (.ow us)) → ∃ ws, ρ[l]? = some (some (.ow ws)) := fun l us z => by
        by_cases q : l = i
        · subst q; exact ⟨ds, h1⟩
        · rw [List.getElem?_set_ne (Ne.symm q)] at z; exact ⟨us, z⟩
      obtain ⟨w1, z1⟩ := back j ds' q1
      obtain ⟨w2, z2⟩ := back k es' q2
      exact r.dj j k w1 w2 b hjk z1 z2 q3 }
/-- the list of the frame's own at slot i is frozen -/
theorem RS.freeze (r : RS K F0 H0 F H σ ρ) {ds : List D} {i : Nat} (h1 : ρ[i]? = some (some (.ow ds))) : ∃ F', Same F F' ∧ RS K F0 H0 F' H σ (ρ.set i (some (.fz (.lst ds)))) := by
  obtain ⟨a, xs, e1, e2, e3, e4, e5⟩ := r.ow i ds h1
  have sF : Same F (upd F a (.lst xs)) := same_upd e3
  refine ⟨upd F a (.lst xs), sF, ?_⟩
  exact {
    t0 := r.t0
    g := ⟨r.g.ff.trans sF, r.g.hh, fun b o e => by
        by_cases q : b = a
        · subst q; rw [upd_same] at e; cases e; exact e2
        · rw [upd_ne q] at e; exact r.g.fh b o e, fun b hb => by
        by_cases q : b = a
        · subst q; exact .inr e4
        · rw [upd_ne q] at hb; exact r.g.nw b hb⟩
    len := by rw [List.length_set]; exact r.len
    fz := fun j e q1 => by
      by_cases q : j = i
      · subst q
        obtain ⟨z, l⟩ := get_set_eq q1
        cases z
        exact ⟨_, e1, rep_lst.mpr ⟨a, xs, rfl, SqL.of upd_same, e5.mono sF⟩⟩
      · rw [List.getElem?_set_ne (Ne.symm q)] at q1
        obtain ⟨v, z1, z2⟩ := r.fz j e q1
        exact ⟨v, z1, z2.mono sF⟩
    ow := fun j es' q1 => by
      by_cases q : j = i
      · subst q
        obtain ⟨z, l⟩ := get_set_eq q1
        cases z
      · rw [List.getElem?_set_ne (Ne.symm q)] at q1
        obtain ⟨b, zs, f1, f2, f3, f4, f5⟩ := r.ow j es' q1
        have hb : b ≠ a := fun z => by
          subst z
          exact r.dj i j ds es' b (Ne.symm q) h1 q1 e1 f1
        exact ⟨b, zs, f1, f2, by rw [upd_ne hb]; exact f3, f4, f5.mono sF⟩
    dj := fun j k ds' es' b hjk q1 q2 q3 => by
      have back : ∀ (l : Nat) (us : List D), (ρ.set i (some (.fz (.lst ds))))[l]? = some (some (.ow us)) → ρ[l]? = some (some (.ow us)) := fun l us z => by
        by_cases q : l = i
        · subst q
          obtain ⟨z', _⟩ := get_set_eq z
          cases z'
        · rw [List.getElem?_set_ne (Ne.symm q)] at z; exact z
      exact r.dj j k ds' es' b hjk (back _ _ q1) (back _ _ q2) q3 }
end
end DL

set_option maxRecDepth 100000
set_option maxHeartbeats 4000000
namespace DL
open PySem PySem.Spec PyProof.Rows L2
variable [Lam]

abbrev lim : Nat := 1000000
theorem lim_size {n : Nat} (h : n ≤ lim) : n ≤ sizeLine := Nat.le_trans h (by decide)
theorem lim_size' {n : Nat} (h : n < lim) : n < sizeLine := Nat.lt_of_lt_of_le h (by decide)

/-! ### readings by functions -/
abbrev FE := Rho → Option D
abbrev FT := Rho → Option Bool
abbrev FA := Rho → Option (List D)
inductive Fl where
  | nx | bk | ct
  | rt (d : D)
abbrev FS := Rho → Option (Fl × Rho)

def tD (K : Frag) (f : FE) : TE := fun σ H Q => ∃ F0 H0 F ρ d, RS K F0 H0 F H σ ρ ∧ f ρ = some d ∧ ∀ v F' H', Grow F H F' H' → Rep K F' d v → Q v H'
/-- a new list of its own -/
def tL (K : Frag) (f : FA) : TE := fun σ H Q => ∃ F0 H0 F ρ ds, RS K F0 H0 F H σ ρ ∧ f ρ = some ds ∧ ∀ a xs F' H', Grow F H F' H' → F' a = none → H a = none → H' a = some (.lst xs) → RepL K F' ds xs → Q (.ref a) H'
def tDT (K : Frag) (f : FT) : TT := fun σ H Q => ∃ F0 H0 F ρ b, RS K F0 H0 F H σ ρ ∧ f ρ = some b ∧ ∀ F' H', Grow F H F' H' → Q b H'
def tDA (K : Frag) (f : FA) : TA := fun σ H Q => ∃ F0 H0 F ρ ds, RS K F0 H0 F H σ ρ ∧ f ρ = some ds ∧ ∀ vs F' H', Grow F H F' H' → RepL K F' ds vs → Q vs H'
def outOk (K : Frag) (F0 H0 F : Hp) (D : Ends) (fl : Fl) (ρ' : Rho) : Prop := match fl with
  | .nx => ∀ σ' F' H', Same F F' → RS K F0 H0 F' H' σ' ρ' → D.nx σ' H'
  | .bk => ∀ σ' F' H', Same F F' → RS K F0 H0 F' H' σ' ρ' → D.bk σ' H'
  | .ct => ∀ σ' F' H', Same F F' → RS K F0 H0 F' H' σ' ρ' → D.ct σ' H'
  | .rt d => ∀ v F' H', Grow F0 H0 F' H' → Rep K F' d v → D.rt v H'
def tDS (K : Frag) (f : FS) : TS := fun D σ H => ∃ F0 H0 F ρ fl ρ', RS K F0 H0 F H σ ρ ∧ f ρ = some (fl, ρ') ∧ outOk K F0 H0 F D fl ρ'

section
variable {X : Cx} {e : Expr} {pos : Pos}
theorem pe_imp {t t' : TE} (h : PE X e t) (i : ∀ σ H Q, t' σ H Q → t σ H Q) : PE X e t' := fun pins s σ H Q I q => h pins s σ H Q I (i σ H Q q)
theorem pt_imp {t t' : TT} (h : PT X e t) (i : ∀ σ H Q, t' σ H Q → t σ H Q) : PT X e t' := fun pins s σ H Q I q => h pins s σ H Q I (i σ H Q q)
theorem pa_imp {es : List Expr} {t t' : TA} (h : PA X es t) (i : ∀ σ H Q, t' σ H Q → t σ H Q) : PA X es t' := fun pos pins s σ H Q I q => h pos pins s σ H Q I (i σ H Q q)
theorem ps_imp {st : Stmt} {t t' : TS} (h : PS X st t) (i : ∀ D σ H, t' D σ H → t D σ H) : PS X st t' := fun pins s σ H D I q => h pins s σ H D I (i D σ H q)
theorem pss_imp {st : List Stmt} {t t' : TS} (h : PSs X st t) (i : ∀ D σ H, t' D σ H → t D σ H) : PSs X st t' := fun pins s σ H D I q => h pins s σ H D I (i D σ H q)

/-! ### names, constants -/
def eV (i : Nat) : FE := fun ρ => match ρ[i]? with
  | some (some (.fz d)) => some d
  | _ => none
def eC (d : D) : FE := fun _ => some d
theorem eV_some {i : Nat} {ρ : Rho} {d : D} (h : eV i ρ = some d) : ρ[i]? = some (some (.fz d)) := by
  unfold eV at h
  split at h
  · rename_i e; rw [e, Option.some.inj h]
  · cases h
theorem pd_var {K : Frag} {i : Nat} (h : PE X e (tVar i)) : PE X e (tD K (eV i)) := pe_imp h fun σ H Q ⟨F0, H0, F, ρ, d, r, hf, q⟩ => by
  obtain ⟨v, e1, e2⟩ := r.fz i d (eV_some hf)
  exact ⟨v, e1, q v F H (.refl r.fh) e2⟩
theorem pd_const {K : Frag} {v : V} {d : D} (h : PE X e (tC v)) (hd : ∀ H, Rep K H d v) : PE X e (tD K (eC d)) := pe_imp h fun σ H Q ⟨F0, H0, F, ρ, d', r, hf, q⟩ => by
  cases hf
  exact q v F H (.refl r.fh) (hd F)
theorem pd_int {K : Frag} {i j} : PE X (.Constant (.int i) j pos) (tD K (eC (.int i))) := pd_const pe_int fun _ => rep_int.mpr rfl
theorem pd_bl {K : Frag} {b j} : PE X (.Constant (.bool b) j pos) (tD K (eC (.bl b))) := pd_const pe_bl fun _ => rep_bl.mpr rfl
theorem pd_non {K : Frag} {j} : PE X (.Constant .none j pos) (tD K (eC .non)) := pd_const pe_non fun _ => rep_non.mpr rfl
theorem pd_str {K : Frag} {x j} : PE X (.Constant (.str x) j pos) (tD K (eC (.str x))) := pd_const pe_str fun _ => rep_str.mpr rfl

/-! ### operations -/
def rD (K : Frag) (op : D → D → Option D) : R2 := fun x y H Q => ∃ F d1 d2 d, Same F H ∧ Rep K F d1 x ∧ Rep K F d2 y ∧ op d1 d2 = some d ∧ ∀ v F' H', Grow F H F' H' → Rep K F' d v → Q v H'
def eOp (op : D → D → Option D) (f g : FE) : FE := fun ρ => (f ρ).bind fun x => (g ρ).bind fun y => op x y
theorem two {K : Frag} {f g : FE} {op : D → D → Option D} {σ : St} {H : Hp} {Q : VK} (h : tD K (eOp op f g) σ H Q) : tD K f σ H fun x H1 => tD K g σ H1 fun y H2 => rD K op x y H2 Q := by
  obtain ⟨F0, H0, F, ρ, d, r, hf, q⟩ := h
  obtain ⟨d1, h1, hf⟩ := Option.bind_eq_some_iff.mp hf
  obtain ⟨d2, h2, h3⟩ := Option.bind_eq_some_iff.mp hf
  refine ⟨F0, H0, F, ρ, d1, r, h1, fun v F1 H1 g1 r1 => ⟨F0, H0, F1, ρ, d2, r.grow g1, h2, fun u F2 H2 g2 r2 => ?_⟩⟩
  exact ⟨F2, d1, d2, d, g2.fh, r1.mono g2.ff, r2, h3, fun w F3 H3 g3 r3 => q w F3 H3 (g1.trans (g2.trans g3)) r3⟩
variable {a b : Expr} {f g : FE}
theorem pd_op {op : Operator} {o : D → D → Option D} (ho : OpR X (binaryOp op) (rD X.K o)) (ha : PE X a (tD X.K f)) (hb : PE X b (tD X.K g)) : PE X (.BinOp a op b pos) (tD X.K (eOp o f g)) :=
  pe_imp (pe_op ho ha hb) fun σ H Q h => two h
theorem opR_imp {f : Value → Value → Sem Value} {r r' : R2} (h : OpR X f r) (i : ∀ x y H Q, r' x y H Q → r x y H Q) : OpR X f r' := fun pins s σ H x y v u Q I rx ry q => h pins s σ H x y v u Q I rx ry (i x y H Q q)
/-- an operation by cases of its arguments -/
theorem opR_or {f : Value → Value → Sem Value} {K : Frag} {o o' : D → D → Option D} (h : OpR X f (rD K o)) (h' : OpR X f (rD K o')) : OpR X f (rD K fun x y => (o x y).or (o' x y)) := fun pins s σ H x y v u Q I rx ry q => by
  obtain ⟨F, d1, d2, d, q1, q2, q3, q4, q5⟩ := q
  have q4 : (o d1 d2).or (o' d1 d2) = some d := q4
  cases e : o d1 d2 with
  | some d' => rw [e] at q4; cases q4; exact h pins s σ H x y v u Q I rx ry ⟨F, d1, d2, _, q1, q2, q3, e, q5⟩
  | none => rw [e] at q4; exact h' pins s σ H x y v u Q I rx ry ⟨F, d1, d2, d, q1, q2, q3, q4, q5⟩
/-- ints in, an int out -/
def oI (C : Int → Int → Bool) (z : Int → Int → Int) : D → D → Option D
  | .int i, .int j => if C i j then some (.int (z i j)) else none
  | _, _ => none
def oB (z : Int → Int → Bool) : D → D → Option D
  | .int i, .int j => some (.bl (z i j))
  | _, _ => none
theorem oI_some {C : Int → Int → Bool} {z : Int → Int → Int} {d1 d2 d : D} (h : oI C z d1 d2 = some d) : ∃ i j, d1 = .int i ∧ d2 = .int j ∧ C i j = true ∧ d = .int (z i j) := by
  cases d1 <;> cases d2 <;> simp only [oI] at h <;> first | (cases h; done) | skip
  split at h
  · exact ⟨_, _, rfl, rfl, by assumption, (Option.some.inj h).symm⟩
  · cases h
theorem oB_some {z : Int → Int → Bool} {d1 d2 d : D} (h : oB z d1 d2 = some d) : ∃ i j, d1 = .int i ∧ d2 = .int j ∧ d = .bl (z i j) := by
  cases d1 <;> cases d2 <;> simp only [oB] at h <;> first | (cases h; done) | skip
  exact ⟨_, _, rfl, rfl, (Option.some.inj h).symm⟩
theorem opI_D {fv : Value → Value → Sem Value} {P : Int → Int → Prop} {C : Int → Int → Bool} {z : Int → Int → Int} (h : OpR X fv (rI P fun i j => .int (z i j))) (hC : ∀ i j, C i j = true → P i j) : OpR X fv (rD X.K (oI C z)) :=
  opR_imp h fun x y H Q ⟨F, d1, d2, d, q1, q2, q3, q4, q5⟩ => by
    obtain ⟨i, j, rfl, rfl, c, rfl⟩ := oI_some q4
    exact ⟨i, j, rep_int.mp q2, rep_int.mp q3, hC i j c, q5 _ F H (.refl q1) (rep_int.mpr rfl)⟩
theorem opI0_D {fv : Value → Value → Sem Value} {z : Int → Int → Int} (h : OpR X fv (rI0 fun i j => .int (z i j))) : OpR X fv (rD X.K (oI (fun _ _ => true) z)) :=
  opR_imp h fun x y H Q ⟨F, d1, d2, d, q1, q2, q3, q4, q5⟩ => by
    obtain ⟨i, j, rfl, rfl, c, rfl⟩ := oI_some q4
    exact ⟨i, j, rep_int.mp q2, rep_int.mp q3, q5 _ F H (.refl q1) (rep_int.mpr rfl)⟩
theorem opB0_D {fv : Value → Value → Sem Value} {z : Int → Int → Bool} (h : OpR X fv (rI0 fun i j => .bl (z i j))) : OpR X fv (rD X.K (oB z)) :=
  opR_imp h fun x y H Q ⟨F, d1, d2, d, q1, q2, q3, q4, q5⟩ => by
    obtain ⟨i, j, rfl, rfl, rfl⟩ := oB_some q4
    exact ⟨i, j, rep_int.mp q2, rep_int.mp q3, q5 _ F H (.refl q1) (rep_bl.mpr rfl)⟩
abbrev oAdd := oI (fun _ _ => true) fun i j => i + j
abbrev oSub := oI (fun _ _ => true) fun i j => i - j
abbrev oMul := oI (fun i j => (decide (-(2 ^ 64) < i) && decide (i < 2 ^ 64)) || (decide (-(2 ^ 64) < j) && decide (j < 2 ^ 64))) fun i j => i * j
abbrev oDiv := oI (fun _ j => decide (0 < j) && decide (j < 1073741824)) fun i j => i / j
abbrev oMod := oI (fun _ j => decide (0 < j)) fun i j => i % j
abbrev oShr := oI (fun _ j => decide (0 ≤ j)) fun i j => i / 2 ^ j.toNat

theorem and_dec {p q : Prop} [Decidable p] [Decidable q] (h : (decide p && decide q) = true) : p ∧ q := by simpa using h
theorem od_add : OpR X (binaryOp .Add) (rD X.K oAdd) := opI0_D op_add
theorem od_sub : OpR X (binaryOp .Sub) (rD X.K oSub) := opI0_D op_sub
theorem od_mul : OpR X (binaryOp .Mult) (rD X.K oMul) := opI_D op_mul fun i j h => by
  rcases Bool.or_eq_true _ _ ▸ h with z | z
  · exact .inl (and_dec z)
  · exact .inr (and_dec z)
theorem od_div : OpR X (binaryOp .FloorDiv) (rD X.K oDiv) := opI_D op_fdiv fun i j h => and_dec h
theorem od_mod : OpR X (binaryOp .Mod) (rD X.K oMod) := opI_D op_mod fun i j h => of_decide_eq_true h
theorem od_shr : OpR X (binaryOp .RShift) (rD X.K oShr) := opI_D op_shr fun i j h => of_decide_eq_true h
abbrev oShl := oI (fun i j => decide (0 ≤ j) && (decide (j ≤ 1000000) && decide (i.natAbs < 2 ^ 64))) fun i j => i * 2 ^ j.toNat
abbrev oPow := oI (fun i j => decide (0 ≤ j) && (decide (j ≤ 1000000) && decide (i.natAbs < 2 ^ 64))) fun i j => i ^ j.toNat
theorem and_dec3 {p q r : Prop} [Decidable p] [Decidable q] [Decidable r] (h : (decide p && (decide q && decide r)) = true) : p ∧ q ∧ r := by simpa using h
theorem od_shl : OpR X (binaryOp .LShift) (rD X.K oShl) := opI_D op_shl fun i j h => and_dec3 h
theorem od_pow : OpR X (binaryOp .Pow) (rD X.K oPow) := opI_D op_pow fun i j h => and_dec3 h
abbrev oLt := oB fun i j => decide (i < j)
abbrev oLe := oB fun i j => decide (i ≤ j)
abbrev oGt := oB fun i j => decide (j < i)
abbrev oGe := oB fun i j => decide (j ≤ i)
theorem od_lt : OpR X (compareOp .Lt) (rD X.K oLt) := opB0_D op_lt
theorem od_le : OpR X (compareOp .LtE) (rD X.K oLe) := opB0_D op_le
theorem od_gt : OpR X (compareOp .Gt) (rD X.K oGt) := opB0_D op_gt
theorem od_ge : OpR X (compareOp .GtE) (rD X.K oGe) := opB0_D op_ge
/-- == of plain values -/
def flD : D → Option V
  | .non => some .non
  | .bl b => some (.bl b)
  | .int i => some (.int i)
  | .str x => some (.str x)
  | _ => none
theorem flD_rep {K : Frag} {H : Hp} {d : D} {v u : V} (h : flD d = some u) (r : Rep K H d v) : v = u := by
  cases d <;> simp only [flD] at h <;> first | (cases h; done) | skip
  · cases h; exact rep_non.mp r
  · cases h; exact rep_bl.mp r
  · cases h; exact rep_int.mp r
  · cases h; exact rep_str.mp r
def oEqF : D → D → Option D := fun d e => (flD d).bind fun x => (flD e).bind fun y => if scal x y then some (.bl (decide (x = y))) else none
def oNeF : D → D → Option D := fun d e => (flD d).bind fun x => (flD e).bind fun y => if scal x y then some (.bl (!decide (x = y))) else none
theorem od_eqF : OpR X (compareOp .Eq) (rD X.K oEqF) := opR_imp op_eq fun x y H Q ⟨F, d1, d2, d, q1, q2, q3, q4, q5⟩ => by
  obtain ⟨u, h1, q4⟩ := Option.bind_eq_some_iff.mp q4
  obtain ⟨w, h2, q4⟩ := Option.bind_eq_some_iff.mp q4
  cases flD_rep h1 q2
  cases flD_rep h2 q3
  split at q4
  · rename_i z
    cases q4
    exact ⟨z, q5 _ F H (.refl q1) (rep_bl.mpr rfl)⟩
  · cases q4
theorem od_neF : OpR X (compareOp .NotEq) (rD X.K oNeF) := opR_imp op_ne fun x y H Q ⟨F, d1, d2, d, q1, q2, q3, q4, q5⟩ => by
  obtain ⟨u, h1, q4⟩ := Option.bind_eq_some_iff.mp q4
  obtain ⟨w, h2, q4⟩ := Option.bind_eq_some_iff.mp q4
  cases flD_rep h1 q2
  cases flD_rep h2 q3
  split at q4
  · rename_i z
    cases q4
    exact ⟨z, q5 _ F H (.refl q1) (rep_bl.mpr rfl)⟩
  · cases q4
theorem pd_cmp {op : CmpOp} {o : D → D → Option D} (ho : OpR X (compareOp op) (rD X.K o)) (ha : PE X a (tD X.K f)) (hb : PE X b (tD X.K g)) (hm : behindInMarks op b = false := by first | exact nobehind _ (by decide) (by decide) | rfl) :
    PE X (.Compare a [op] [b] pos) (tD X.K (eOp o f g)) := pe_imp (pe_cmpR ho ha hb hm) fun σ H Q h => two h
/-! ### tests -/
/-- a datum's truth -/
def truD : D → Option Bool
  | .non => some false
  | .bl b => some b
  | .int i => some (i != 0)
  | .tup ds => some (!ds.isEmpty)
  | .lst ds => some (!ds.isEmpty)
  | .str x => if x.length ≤ lim then some ((x.length : Int) != 0) else none
  | _ => none
def bT (f : FE) : FT := fun ρ => (f ρ).bind truD
theorem truD_V {K : Frag} {F H : Hp} {d : D} {b : Bool} {v : V} (h : truD d = some b) (fh : Same F H) (r : Rep K F d v) : TruV K v H b := by
  cases d with
  | non => cases h; rw [rep_non.mp r]; rfl
  | bl c => cases h; rw [rep_bl.mp r]; rfl
  | int i => cases h; rw [rep_int.mp r]; rfl
  | str x =>
    simp only [truD] at h
    split at h
    · rename_i z
      cases h
      rw [rep_str.mp r]
      exact ⟨lim_size z, rfl⟩
    · cases h
  | tup ds =>
    cases h
    obtain ⟨p, xs, rfl, q1, q2⟩ := rep_tup.mp r
    refine .inr (.inl ⟨xs, same_seqT fh q1, ?_⟩)
    cases ds with
    | nil => rw [q2.nil_inv]; rfl
    | cons d ds => obtain ⟨y, r', rfl, _⟩ := q2.cons_inv; rfl
  | lst ds =>
    cases h
    obtain ⟨p, xs, rfl, q1, q2⟩ := rep_lst.mp r
    refine .inl ⟨xs, fh.seq q1, ?_⟩
    cases ds with
    | nil => rw [q2.nil_inv]; rfl
    | cons d ds => obtain ⟨y, r', rfl, _⟩ := q2.cons_inv; rfl
  | dct _ _ => cases h
  | dtt _ _ => cases h
  | obj _ => cases h
  | exc _ => cases h
/-- a test by a value -/
theorem td_val (ha : PE X a (tD X.K f)) (he : ∀ whole, isTrue a X.env whole = (do let v ← whole; standAt a.pos; holding [v] (truthy v)) := by intro _; rfl) : PT X a (tDT X.K (bT f)) :=
  pt_imp (pt_truth ha he) fun σ H Q ⟨F0, H0, F, ρ, b, r, hf, q⟩ => by
    obtain ⟨d, h1, h2⟩ := Option.bind_eq_some_iff.mp hf
    exact ⟨F0, H0, F, ρ, d, r, h1, fun v F' H' g' r' => ⟨b, truD_V h2 g'.fh r', q F' H' g'⟩⟩
/-- a comparison as a test -/
def isB : D → Option Bool
  | .bl b => some b
  | _ => none
def bCmp (o : D → D → Option D) (f g : FE) : FT := fun ρ => (eOp o f g ρ).bind isB
theorem td_cmp {op : CmpOp} {o : D → D → Option D} (ho : OpR X (compareOp op) (rD X.K o)) (ha : PE X a (tD X.K f)) (hb : PE X b (tD X.K g)) (hm : behindInMarks op b = false := by first | exact nobehind _ (by decide) (by decide) | rfl) :
    PT X (.Compare a [op] [b] pos) (tDT X.K (bCmp o f g)) := pt_imp (pt_cmpR ho ha hb hm) fun σ H Q ⟨F0, H0, F, ρ, c, r, hf, q⟩ => by
  obtain ⟨d, h1, h2⟩ := Option.bind_eq_some_iff.mp hf
  refine two ⟨F0, H0, F, ρ, d, r, h1, fun v F' H' g' r' => ?_⟩
  cases d <;> simp only [isB] at h2 <;> first | (cases h2; done) | skip
  cases h2
  exact ⟨_, rep_bl.mp r', q F' H' g'⟩
def bNot (t : FT) : FT := fun ρ => (t ρ).map not
def bAnd (t u : FT) : FT := fun ρ => (t ρ).bind fun c => if c then u ρ else some false
def bOr (t u : FT) : FT := fun ρ => (t ρ).bind fun c => if c then some true else u ρ
variable {t u : FT} {rest : List Expr}
theorem td_not (ha : PT X a (tDT X.K t)) : PT X (.UnaryOp .Not a pos) (tDT X.K (bNot t)) := pt_imp (pt_not ha) fun σ H Q ⟨F0, H0, F, ρ, c, r, hf, q⟩ => by
  obtain ⟨d, h1, h2⟩ := Option.map_eq_some_iff.mp hf
  subst h2
  exact ⟨F0, H0, F, ρ, d, r, h1, fun F' H' g' => q F' H' g'⟩
theorem pw_imp {t t' : TT} (h : PW X a t) (i : ∀ σ H Q, t' σ H Q → t σ H Q) : PW X a t' := fun wh pins s σ H Q I q => h wh pins s σ H Q I (i σ H Q q)
theorem tw_and1 (ha : PT X a (tDT X.K t)) : PW X (.BoolOp .And [a] pos) (tDT X.K t) := pw_and1 ha
theorem tw_or1 (ha : PT X a (tDT X.K t)) : PW X (.BoolOp .Or [a] pos) (tDT X.K t) := pw_or1 ha
theorem tw_and (ha : PT X a (tDT X.K t)) (hb : PW X (.BoolOp .And (b :: rest) pos) (tDT X.K u)) : PW X (.BoolOp .And (a :: b :: rest) pos) (tDT X.K (bAnd t u)) := pw_imp (pw_and ha hb) fun σ H Q ⟨F0, H0, F, ρ, c, r, hf, q⟩ => by
  obtain ⟨d, h1, h2⟩ := Option.bind_eq_some_iff.mp hf
  refine ⟨F0, H0, F, ρ, d, r, h1, fun F' H' g' => ?_⟩
  cases d with
  | true => rw [if_pos rfl] at h2 ⊢; exact ⟨F0, H0, F', ρ, c, r.grow g', h2, fun F2 H2 g2 => q F2 H2 (g'.trans g2)⟩
  | false => rw [if_neg Bool.false_ne_true] at h2 ⊢; cases h2; exact q F' H' g'
theorem tw_or (ha : PT X a (tDT X.K t)) (hb : PW X (.BoolOp .Or (b :: rest) pos) (tDT X.K u)) : PW X (.BoolOp .Or (a :: b :: rest) pos) (tDT X.K (bOr t u)) := pw_imp (pw_or ha hb) fun σ H Q ⟨F0, H0, F, ρ, c, r, hf, q⟩ => by
  obtain ⟨d, h1, h2⟩ := Option.bind_eq_some_iff.mp hf
  refine ⟨F0, H0, F, ρ, d, r, h1, fun F' H' g' => ?_⟩
  cases d with
  | false => rw [if_neg Bool.false_ne_true] at h2 ⊢; exact ⟨F0, H0, F', ρ, c, r.grow g', h2, fun F2 H2 g2 => q F2 H2 (g'.trans g2)⟩
  | true => rw [if_pos rfl] at h2 ⊢; cases h2; exact q F' H' g'
/-! ### and, or, not, if as values -/
def eAnd (f g : FE) : FE := fun ρ => (f ρ).bind fun x => (isB x).bind fun c => if c then g ρ else some (.bl false)
def eOr (f g : FE) : FE := fun ρ => (f ρ).bind fun x => (isB x).bind fun c => if c then some (.bl true) else g ρ
def eNot (f : FE) : FE := fun ρ => (f ρ).bind fun x => (isB x).map fun c => .bl (!c)
def eIf (t : FT) (f g : FE) : FE := fun ρ => (t ρ).bind fun c => if c then f ρ else g ρ
theorem isB_some {d : D} {c : Bool} (h : isB d = some c) : d = .bl c := by
  cases d <;> simp only [isB] at h <;> first | (cases h; done) | skip
  rw [Option.some.inj h]
theorem pd_one {op} (h : PE X a (tD X.K f)) : PE X (.BoolOp op [a] pos) (tD X.K f) := pe_one h
theorem pd_and (ha : PE X a (tD X.K f)) (hb : PE X (.BoolOp .And (b :: rest) pos) (tD X.K g)) : PE X (.BoolOp .And (a :: b :: rest) pos) (tD X.K (eAnd f g)) := pe_imp (pe_and ha hb) fun σ H Q ⟨F0, H0, F, ρ, d, r, hf, q⟩ => by
  obtain ⟨x, h1, hf⟩ := Option.bind_eq_some_iff.mp hf
  obtain ⟨c, h2, h3⟩ := Option.bind_eq_some_iff.mp hf
  refine ⟨F0, H0, F, ρ, x, r, h1, fun v F' H' g' r' => ?_⟩
  rw [isB_some h2] at r'
  refine ⟨c, rep_bl.mp r', ?_⟩
  cases c with
  | true => rw [if_pos rfl] at h3 ⊢; exact ⟨F0, H0, F', ρ, d, r.grow g', h3, fun w F2 H2 g2 r2 => q w F2 H2 (g'.trans g2) r2⟩
  | false => rw [if_neg Bool.false_ne_true] at h3 ⊢; cases h3; exact q _ F' H' g' (rep_bl.mpr rfl)
theorem pd_or (ha : PE X a (tD X.K f)) (hb : PE X (.BoolOp .Or (b :: rest) pos) (tD X.K g)) : PE X (.BoolOp .Or (a :: b :: rest) pos) (tD X.K (eOr f g)) := pe_imp (pe_or ha hb) fun σ H Q ⟨F0, H0, F, ρ, d, r, hf, q⟩ => by
  obtain ⟨x, h1, hf⟩ := Option.bind_eq_some_iff.mp hf
  obtain ⟨c, h2, h3⟩ := Option.bind_eq_some_iff.mp hf
  refine ⟨F0, H0, F, ρ, x, r, h1, fun v F' H' g' r' => ?_⟩
  rw [isB_some h2] at r'
  refine ⟨c, rep_bl.mp r', ?_⟩
  cases c with
  | false => rw [if_neg Bool.false_ne_true] at h3 ⊢; exact ⟨F0, H0, F', ρ, d, r.grow g', h3, fun w F2 H2 g2 r2 => q w F2 H2 (g'.trans g2) r2⟩
  | true => rw [if_pos rfl] at h3 ⊢; cases h3; exact q _ F' H' g' (rep_bl.mpr rfl)
theorem pd_not (ha : PE X a (tD X.K f)) : PE X (.UnaryOp .Not a pos) (tD X.K (eNot f)) := pe_imp (pe_not ha) fun σ H Q ⟨F0, H0, F, ρ, d, r, hf, q⟩ => by
  obtain ⟨x, h1, hf⟩ := Option.bind_eq_some_iff.mp hf
  obtain ⟨c, h2, h3⟩ := Option.map_eq_some_iff.mp hf
  subst h3
  refine ⟨F0, H0, F, ρ, x, r, h1, fun v F' H' g' r' => ?_⟩
  rw [isB_some h2] at r'
  exact ⟨c, rep_bl.mp r', q _ F' H' g' (rep_bl.mpr rfl)⟩
theorem pd_if {c : Expr} (hc : PT X c (tDT X.K t)) (ha : PE X a (tD X.K f)) (hb : PE X b (tD X.K g)) : PE X (.IfExp c a b pos) (tD X.K (eIf t f g)) := pe_imp (pe_ifExp hc ha hb) fun σ H Q ⟨F0, H0, F, ρ, d, r, hf, q⟩ => by
  obtain ⟨x, h1, h2⟩ := Option.bind_eq_some_iff.mp hf
  refine ⟨F0, H0, F, ρ, x, r, h1, fun F' H' g' => ?_⟩
  cases x with
  | true => rw [if_pos rfl] at h2 ⊢; exact ⟨F0, H0, F', ρ, d, r.grow g', h2, fun w F2 H2 g2 r2 => q w F2 H2 (g'.trans g2) r2⟩
  | false => rw [if_neg Bool.false_ne_true] at h2 ⊢; exact ⟨F0, H0, F', ρ, d, r.grow g', h2, fun w F2 H2 g2 r2 => q w F2 H2 (g'.trans g2) r2⟩
end
end DL

set_option maxRecDepth 100000
set_option maxHeartbeats 4000000
namespace DL
open PySem PySem.Spec PyProof.Rows L2
variable [Lam]
section
variable {X : Cx} {e : Expr} {es : List Expr} {pos : Pos} {f g : FE} {fa : FA}

/-! ### argument lists, displays -/
def notStar : Expr → Bool
  | .Starred _ _ => false
  | _ => true
theorem star_ns {e : Expr} {es : List Expr} {env : Env} (h : notStar e = true) : starEach (e :: es) env = (false, eval e env) :: starEach es env := by
  cases e <;> first | rfl | cases h
def aNil : FA := fun _ => some []
def aCons (f : FE) (fa : FA) : FA := fun ρ => (f ρ).bind fun d => (fa ρ).map fun ds => d :: ds
theorem ad_nil : PA X [] (tDA X.K aNil) := pa_imp pa_nil fun σ H Q ⟨F0, H0, F, ρ, ds, r, hf, q⟩ => by
  cases hf
  exact q [] F H (.refl r.fh) .nil
theorem ad_cons (ha : PE X e (tD X.K f)) (hr : PA X es (tDA X.K fa)) (hs : starEach (e :: es) X.env = (false, eval e X.env) :: starEach es X.env := by first | exact star_ns rfl | rfl) : PA X (e :: es) (tDA X.K (aCons f fa)) :=
  pa_imp (pa_cons ha hr hs) fun σ H Q ⟨F0, H0, F, ρ, ds, r, hf, q⟩ => by
    obtain ⟨d, h1, hf⟩ := Option.bind_eq_some_iff.mp hf
    obtain ⟨ds', h2, h3⟩ := Option.map_eq_some_iff.mp hf
    subst h3
    refine ⟨F0, H0, F, ρ, d, r, h1, fun v F1 H1 g1 r1 => ⟨F0, H0, F1, ρ, ds', r.grow g1, h2, fun vs F2 H2 g2 r2 => ?_⟩⟩
    exact q _ F2 H2 (g1.trans g2) (.cons (r1.mono g2.ff) r2)
def eTup (fa : FA) : FE := fun ρ => (fa ρ).bind fun ds => if ds.length ≤ lim then some (.tup ds) else none
def lLst (fa : FA) : FA := fun ρ => (fa ρ).bind fun ds => if ds.length ≤ lim then some ds else none
theorem pd_tup {x1} (h : PA X es (tDA X.K fa)) : PE X (.Tuple es x1 pos) (tD X.K (eTup fa)) := pe_imp (pe_tup h) fun σ H Q ⟨F0, H0, F, ρ, d, r, hf, q⟩ => by
  obtain ⟨ds, h1, h2⟩ := Option.bind_eq_some_iff.mp hf
  split at h2
  · rename_i hl
    cases h2
    refine ⟨F0, H0, F, ρ, ds, r, h1, fun vs F1 H1 g1 r1 => ⟨lim_size (by rw [← r1.length]; exact hl), fun p hp => ?_⟩⟩
    have gn : Grow F1 H1 (upd F1 p (.tup vs)) (upd H1 p (.tup vs)) := Grow.new g1.fh hp
    exact q _ _ _ (g1.trans gn) (rep_tup.mpr ⟨p, vs, rfl, SqT.of upd_same, r1.mono gn.ff⟩)
  · cases h2
theorem ld_lst (h : PA X es (tDA X.K fa)) : PE X (.List es pos) (tL X.K (lLst fa)) := pe_imp (pe_lst h) fun σ H Q ⟨F0, H0, F, ρ, ds, r, hf, q⟩ => by
  obtain ⟨ds', h1, h2⟩ := Option.bind_eq_some_iff.mp hf
  split at h2
  · rename_i hl
    cases h2
    refine ⟨F0, H0, F, ρ, ds, r, h1, fun vs F1 H1 g1 r1 => ⟨lim_size (by rw [← r1.length]; exact hl), fun p hp => ?_⟩⟩
    exact q p vs F1 (upd H1 p (.lst vs)) (g1.trans (Grow.own g1.fh hp)) (g1.fh.free hp) (g1.hh.free hp) upd_same r1
  · cases h2
/-- a new list, frozen at once -/
def eL (fa : FA) : FE := fun ρ => (fa ρ).map .lst
theorem pd_l (h : PE X e (tL X.K fa)) : PE X e (tD X.K (eL fa)) := pe_imp h fun σ H Q ⟨F0, H0, F, ρ, d, r, hf, q⟩ => by
  obtain ⟨ds, h1, h2⟩ := Option.map_eq_some_iff.mp hf
  subst h2
  refine ⟨F0, H0, F, ρ, ds, r, h1, fun a xs F1 H1 g1 fa' ha' hl r1 => ?_⟩
  have sF : Same F1 (upd F1 a (.lst xs)) := same_upd fa'
  refine q _ (upd F1 a (.lst xs)) H1 ⟨g1.ff.trans sF, g1.hh, fun b o z => ?_, fun b hb => ?_⟩ (rep_lst.mpr ⟨a, xs, rfl, SqL.of upd_same, r1.mono sF⟩)
  · by_cases q' : b = a
    · subst q'; rw [upd_same] at z; cases z; exact hl
    · rw [upd_ne q'] at z; exact g1.fh b o z
  · by_cases q' : b = a
    · subst q'; exact .inr ha'
    · rw [upd_ne q'] at hb; exact g1.nw b hb

/-! ### calls by values -/
def rC (K : Frag) (op : List D → Option D) : List V → Hp → VK → Prop := fun xs H Q => ∃ F ds d, Same F H ∧ RepL K F ds xs ∧ op ds = some d ∧ ∀ v F' H', Grow F H F' H' → Rep K F' d v → Q v H'
def eCall (op : List D → Option D) (fa : FA) : FE := fun ρ => (fa ρ).bind op
theorem callR_imp {f : Value} {r r' : List V → Hp → VK → Prop} (h : CallR X f r) (i : ∀ xs H Q, r' xs H Q → r xs H Q) : CallR X f r' := fun pins s σ H xs us Q I rv q => h pins s σ H xs us Q I rv (i xs H Q q)
theorem args_C {K : Frag} {op : List D → Option D} {σ : St} {H : Hp} {Q : VK} (h : tD K (eCall op fa) σ H Q) : tDA K fa σ H fun vs H1 => rC K op vs H1 Q := by
  obtain ⟨F0, H0, F, ρ, d, r, hf, q⟩ := h
  obtain ⟨ds, h1, h2⟩ := Option.bind_eq_some_iff.mp hf
  exact ⟨F0, H0, F, ρ, ds, r, h1, fun vs F1 H1 g1 r1 => ⟨F1, ds, d, g1.fh, r1, h2, fun v F2 H2 g2 r2 => q v F2 H2 (g1.trans g2) r2⟩⟩
theorem pd_callB {x : Str} {p : Pos} {id : String} {op : List D → Option D} (hc : CallR X (.builtin id) (rC X.K op)) (hg : Gl X x) (hm : X.mg x = none) (hv : bootBuiltins x = some (.builtin id)) (ha : PA X (e :: es) (tDA X.K fa))
    (hn : x ≠ "__name__" := by decide) (hdb : (x == ("__debug__" : Str)) = false := by decide)
    (he : starEach (e :: es) X.env = (false, eval e X.env) :: starEach es X.env := by rfl) (hpl : (backTo pos (starEach es X.env)).any (·.1) = false := by rfl) : PE X (.Call (.Name x p) (e :: es) [] pos) (tD X.K (eCall op fa)) :=
  pe_imp (pe_callB hc hg hm hv ha hn hdb he hpl) fun σ H Q h => args_C h
theorem pd_callTy {x : Str} {p : Pos} {T : String} {op : List D → Option D} (hc : CallR X (.type T) (rC X.K op)) (hg : Gl X x) (hm : X.mg x = none) (hv : bootBuiltins x = some (.type T)) (ha : PA X (e :: es) (tDA X.K fa))
    (hn : x ≠ "__name__" := by decide) (hdb : (x == ("__debug__" : Str)) = false := by decide)
    (he : starEach (e :: es) X.env = (false, eval e X.env) :: starEach es X.env := by rfl) (hpl : (backTo pos (starEach es X.env)).any (·.1) = false := by rfl) : PE X (.Call (.Name x p) (e :: es) [] pos) (tD X.K (eCall op fa)) :=
  pe_imp (pe_callTy hc hg hm hv ha hn hdb he hpl) fun σ H Q h => args_C h

/-! ### what a def promises -/
def spD (K : Frag) (ar : Nat) (op : List D → Option D) : Sp := fun vs H Q _ => ∃ F ds d, SameT F H ∧ RepL K F ds vs ∧ ds.length = ar ∧ op ds = some d ∧ ∀ v F' H', Grow F H F' H' → Rep K F' d v → Q v H'
theorem SameT.grow {F H F' H' : Hp} (s : SameT F H) (g : Grow F H F' H') : SameT F' H' := ⟨g.fh, g.hh.tb s.t, fun p hp => by
  cases q : F' p.1 with
  | none => rfl
  | some o =>
    rcases g.nw p.1 (by rw [q]; simp) with z | z
    · exact absurd (s.f p hp) z
    · obtain ⟨ps, e, _⟩ := s.t p hp
      rw [e] at z; cases z⟩
def callD (ar : Nat) (dds : List D) (op : List D → Option D) : List D → Option D := fun ds => if (ds ++ dds).length = ar then op (ds ++ dds) else none
/-- a call of a def of the text; dds: the defaults that fill up -/
theorem pd_call {k ar : Nat} {fn : Addr} {fd : FuncData} {ps : List Str} {op : List D → Option D} {x : Str} {p : Pos} {dvs : List V} {dds : List D} {dv : List Value} (F : FnOk X.prog X.w X.K X.mg X.base CX0 k fn fd ps (spD X.K ar op)) (hr : Room k X.A) (hg : Gl X x) (hm : X.mg x = some (.ref fn)) (hk : PySem.W.keepIn X.K (.ref fn) = true)
    (hb : Binds X.K fd ps dv) (hd : Vals dvs dv) (hdd : ∀ H, RepL X.K H dds dvs) (ha : PA X (e :: es) (tDA X.K fa)) (hdb : (x == ("__debug__" : Str)) = false := by decide)
    (he : starEach (e :: es) X.env = (false, eval e X.env) :: starEach es X.env := by rfl) (hpl : (backTo pos (starEach es X.env)).any (·.1) = false := by rfl) :
    PE X (.Call (.Name x p) (e :: es) [] pos) (tD X.K (eCall (callD ar dds op) fa)) :=
  pe_imp (pe_call F hr hg hm hk hb hd pass0 ha hdb he hpl) fun σ H Q ⟨F0, H0, Fz, ρ, d, r, hf, q⟩ => by
    obtain ⟨ds, h1, h2⟩ := Option.bind_eq_some_iff.mp hf
    unfold callD at h2
    split at h2
    · rename_i hl
      exact ⟨F0, H0, Fz, ρ, ds, r, h1, fun vs F1 H1 g1 r1 => ⟨F1, ds ++ dds, d, r.sameT g1, r1.append (hdd F1), hl, h2, fun v F2 H2 g2 r2 => q v F2 H2 (g1.trans g2) r2⟩⟩
    · cases h2
end

/-! ### statements -/
section
variable {X : Cx} {st : Stmt} {rest : List Stmt} {e : Expr} {pos : Pos} {f : FE} {fa : FA} {t : FT} {u w : FS}
def sNil : FS := fun ρ => some (.nx, ρ)
def sSeq (u w : FS) : FS := fun ρ => (u ρ).bind fun r => match r with
  | (.nx, ρ') => w ρ'
  | (fl, ρ') => some (fl, ρ')
def sIf (t : FT) (u w : FS) : FS := fun ρ => (t ρ).bind fun c => if c then u ρ else w ρ
def sSet (i : Nat) (f : FE) : FS := fun ρ => (f ρ).map fun d => (.nx, ρ.set i (some (.fz d)))
def sOwn (i : Nat) (fa : FA) : FS := fun ρ => (fa ρ).map fun ds => (.nx, ρ.set i (some (.ow ds)))
def sRet (f : FE) : FS := fun ρ => (f ρ).map fun d => (.rt d, ρ)
def sRetN : FS := fun ρ => some (.rt .non, ρ)
def sBrk : FS := fun ρ => some (.bk, ρ)
def sCnt : FS := fun ρ => some (.ct, ρ)
def sDrop (f : FE) : FS := fun ρ => (f ρ).map fun _ => (.nx, ρ)
theorem sd_nil : PSs X [] (tDS X.K sNil) := pss_imp pss_nil fun D σ H ⟨F0, H0, F, ρ, fl, ρ', r, hf, q⟩ => by
  cases hf
  exact q σ F H (.refl _) r
theorem out_same {K : Frag} {F0 H0 F F' : Hp} {D : Ends} {fl : Fl} {ρ' : Rho} (s : Same F F') (h : outOk K F0 H0 F D fl ρ') : outOk K F0 H0 F' D fl ρ' := by
  cases fl with
  | nx => exact fun σ' F2 H2 s2 r => h σ' F2 H2 (s.trans s2) r
  | bk => exact fun σ' F2 H2 s2 r => h σ' F2 H2 (s.trans s2) r
  | ct => exact fun σ' F2 H2 s2 r => h σ' F2 H2 (s.trans s2) r
  | rt d => exact h
theorem sd_cons (h1 : PS X st (tDS X.K u)) (h2 : PSs X rest (tDS X.K w)) : PSs X (st :: rest) (tDS X.K (sSeq u w)) := pss_imp (pss_cons h1 h2) fun D σ H ⟨F0, H0, F, ρ, fl, ρ', r, hf, q⟩ => by
  obtain ⟨⟨fl1, ρ1⟩, h3, h4⟩ := Option.bind_eq_some_iff.mp hf
  refine ⟨F0, H0, F, ρ, fl1, ρ1, r, h3, ?_⟩
  cases fl1 with
  | nx => exact fun σ' F' H' s r' => ⟨F0, H0, F', ρ1, fl, ρ', r', h4, out_same s q⟩
  | bk => cases h4; exact q
  | ct => cases h4; exact q
  | rt d => cases h4; exact q
theorem sd_one (h1 : PS X st (tDS X.K u)) : PSs X [st] (tDS X.K u) := pss_one h1
theorem sd_if {c : Expr} {a b : List Stmt} (hc : PT X c (tDT X.K t)) (ha : PSs X a (tDS X.K u)) (hb : PSs X b (tDS X.K w)) : PS X (.If c a b pos) (tDS X.K (sIf t u w)) := ps_imp (ps_if hc ha hb) fun D σ H ⟨F0, H0, F, ρ, fl, ρ', r, hf, q⟩ => by
  obtain ⟨c, h1, h2⟩ := Option.bind_eq_some_iff.mp hf
  refine ⟨F0, H0, F, ρ, c, r, h1, fun F' H' g' => ?_⟩
  cases c with
  | true => rw [if_pos rfl] at h2 ⊢; exact ⟨F0, H0, F', ρ, fl, ρ', r.grow g', h2, out_same g'.ff q⟩
  | false => rw [if_neg Bool.false_ne_true] at h2 ⊢; exact ⟨F0, H0, F', ρ, fl, ρ', r.grow g', h2, out_same g'.ff q⟩
theorem sd_pass : PS X (.Pass pos) (tDS X.K sNil) := ps_imp ps_pass fun D σ H ⟨F0, H0, F, ρ, fl, ρ', r, hf, q⟩ => by cases hf; exact q σ F H (.refl _) r
theorem sd_brk : PS X (.Break pos) (tDS X.K sBrk) := ps_imp ps_break fun D σ H ⟨F0, H0, F, ρ, fl, ρ', r, hf, q⟩ => by cases hf; exact q σ F H (.refl _) r
theorem sd_cnt : PS X (.Continue pos) (tDS X.K sCnt) := ps_imp ps_continue fun D σ H ⟨F0, H0, F, ρ, fl, ρ', r, hf, q⟩ => by cases hf; exact q σ F H (.refl _) r
theorem sd_ret (he : PE X e (tD X.K f)) : PS X (.Return (some e) pos) (tDS X.K (sRet f)) := ps_imp (ps_ret he) fun D σ H ⟨F0, H0, F, ρ, fl, ρ', r, hf, q⟩ => by
  obtain ⟨d, h1, h2⟩ := Option.map_eq_some_iff.mp hf
  cases h2
  exact ⟨F0, H0, F, ρ, d, r, h1, fun v F' H' g' r' => q v F' H' (r.g.trans g') r'⟩
theorem sd_retN : PS X (.Return none pos) (tDS X.K sRetN) := ps_imp ps_retN fun D σ H ⟨F0, H0, F, ρ, fl, ρ', r, hf, q⟩ => by
  cases hf
  exact q .non F H r.g (rep_non.mpr rfl)
theorem sd_drop (he : PE X e (tD X.K f)) (hs : swapsWith e none pos.line X.env = pure false := by rfl) : PS X (.Expr e pos) (tDS X.K (sDrop f)) := ps_imp (ps_expr he hs) fun D σ H ⟨F0, H0, F, ρ, fl, ρ', r, hf, q⟩ => by
  obtain ⟨d, h1, h2⟩ := Option.map_eq_some_iff.mp hf
  cases h2
  exact ⟨F0, H0, F, ρ, d, r, h1, fun v F' H' g' r' => q σ F' H' g'.ff (r.grow g')⟩
/-- what a store of a datum comes to -/
theorem asg_D {K : Frag} {i : Nat} {D : Ends} {σ : St} {H : Hp} (h : tDS K (sSet i f) D σ H) : tD K f σ H fun x H1 => gName i x σ H1 D.nx := by
  obtain ⟨F0, H0, F, ρ, fl, ρ', r, hf, q⟩ := h
  obtain ⟨d, h1, h2⟩ := Option.map_eq_some_iff.mp hf
  cases h2
  exact ⟨F0, H0, F, ρ, d, r, h1, fun v F' H' g' r' => q _ F' H' g'.ff ((r.grow g').set i r')⟩
theorem asg_L {K : Frag} {i : Nat} {D : Ends} {σ : St} {H : Hp} (h : tDS K (sOwn i fa) D σ H) : tL K fa σ H fun x H1 => gName i x σ H1 D.nx := by
  obtain ⟨F0, H0, F, ρ, fl, ρ', r, hf, q⟩ := h
  obtain ⟨ds, h1, h2⟩ := Option.map_eq_some_iff.mp hf
  cases h2
  refine ⟨F0, H0, F, ρ, ds, r, h1, fun a xs F' H' g' fa' ha' hl r' => q _ F' H' g'.ff ((r.grow g').setO i hl fa' (r.g.hh.free ha') r' fun j es z1 z2 => ?_)⟩
  obtain ⟨b, ys, e1, e2, _⟩ := r.ow j es z1
  rw [z2] at e1
  obtain rfl : a = b := by simpa using e1
  rw [ha'] at e2; cases e2
theorem sd_set {i : Nat} {x : Str} {px : Pos} (hN : X.N.Nodup) (hi : X.N[i]? = some x) (hx : Loc X.env.scope x) (he : PE X e (tD X.K f)) (hs : swapsWith e (some (.Name x px)) pos.line X.env = pure false := by rfl) (hf : X.fn x = true ∨ X.env.scope.names.lookup x = some .local := by first | exact .inl rfl | exact .inr rfl | assumption) :
    PS X (.Assign [.Name x px] e pos) (tDS X.K (sSet i f)) := ps_imp (ps_set hN hi hx he hs hf) fun D σ H h => asg_D h
theorem sd_own {i : Nat} {x : Str} {px : Pos} (hN : X.N.Nodup) (hi : X.N[i]? = some x) (hx : Loc X.env.scope x) (he : PE X e (tL X.K fa)) (hs : swapsWith e (some (.Name x px)) pos.line X.env = pure false := by rfl) (hf : X.fn x = true ∨ X.env.scope.names.lookup x = some .local := by first | exact .inl rfl | exact .inr rfl | assumption) :
    PS X (.Assign [.Name x px] e pos) (tDS X.K (sOwn i fa)) := ps_imp (ps_set hN hi hx he hs hf) fun D σ H h => asg_L h
/-- x.append(e), x a list of the frame's own -/
def owAt (i : Nat) (ρ : Rho) : Option (List D) := match ρ[i]? with
  | some (some (.ow ds)) => some ds
  | _ => none
theorem owAt_some {i : Nat} {ρ : Rho} {ds : List D} (h : owAt i ρ = some ds) : ρ[i]? = some (some (.ow ds)) := by
  unfold owAt at h
  split at h
  · rename_i e; rw [e, Option.some.inj h]
  · cases h
def sApp (i : Nat) (f : FE) : FS := fun ρ => (owAt i ρ).bind fun ds => (f ρ).bind fun d => if ds.length < lim then some (.nx, ρ.set i (some (.ow (ds ++ [d])))) else none
theorem sd_app {i : Nat} {x : Str} {px apos cpos : Pos} (hv : PE X (.Name x px) (tVar i)) (he : PE X e (tD X.K f))
    (hbase : attributeBase (.Name x px) "append" X.env (eval (.Name x px) X.env) = eval (.Name x px) X.env := by rfl)
    (hfew : ((backTo cpos (starEach [e] X.env)).all (fun x => !x.1) && (backToKw cpos (keywordEach [] X.env)).all (fun x => x.1.isSome) && decide ([e].length + ([] : List Keyword).length + (if ([] : List Keyword).isEmpty then 0 else 1) < 30)) = true := by rfl)
    (hline : (apos.endLine == cpos.line) = true := by rfl) (hse : starEach [e] X.env = (false, eval e X.env) :: starEach [] X.env := by rfl)
    (hs : swapsWith (.Call (.Attribute (.Name x px) "append" apos) [e] [] cpos) none pos.line X.env = pure false := by rfl) : PS X (.Expr (.Call (.Attribute (.Name x px) "append" apos) [e] [] cpos) pos) (tDS X.K (sApp i f)) :=
  ps_imp (ps_expr (pe_bm PySem.F.plainAttrs_list PySem.F.slot_list_append PySem.F.type_list_append mt_append hv (pa_cons he pa_nil hse) hbase hfew hline hse rfl) hs) fun D σ H ⟨F0, H0, F, ρ, fl, ρ', r, hf, q⟩ => by
    obtain ⟨ds, h1, hf⟩ := Option.bind_eq_some_iff.mp hf
    obtain ⟨d, h2, h3⟩ := Option.bind_eq_some_iff.mp hf
    have h1 := owAt_some h1
    split at h3
    · rename_i hl
      cases h3
      obtain ⟨a, xs, e1, e2, e3, e4, e5⟩ := r.ow i ds h1
      refine ⟨.ref a, e1, .inl ⟨rfl, xs, SqL.of e2⟩, F0, H0, F, ρ, d, r, h2, fun v F' H' g' r' => ?_⟩
      have r2 := r.grow g'
      refine ⟨a, xs, v, rfl, rfl, g'.hh.lst _ _ e2, lim_size' (by rw [← e5.length]; exact hl), ?_⟩
      exact q _ F' _ g'.ff (r2.wrt h1 e1 ((e5.mono g'.ff).append (.cons r' .nil)))
    · cases h3
/-- between two statements a list of the frame's own is frozen -/
def frz (i : Nat) (ρ : Rho) : Rho := match ρ[i]? with
  | some (some (.ow ds)) => ρ.set i (some (.fz (.lst ds)))
  | _ => ρ
def sFrz (i : Nat) (u : FS) : FS := fun ρ => u (frz i ρ)
theorem frz_ok {K : Frag} {F0 H0 F H : Hp} {σ : St} {ρ : Rho} (i : Nat) (r : RS K F0 H0 F H σ ρ) : ∃ F', Same F F' ∧ RS K F0 H0 F' H σ (frz i ρ) := by
  unfold frz
  split
  · rename_i ds h
    exact r.freeze h
  · exact ⟨F, .refl _, r⟩
theorem sd_frz (i : Nat) {sts : List Stmt} (h : PSs X sts (tDS X.K u)) : PSs X sts (tDS X.K (sFrz i u)) := pss_imp h fun D σ H ⟨F0, H0, F, ρ, fl, ρ', r, hf, q⟩ => by
  obtain ⟨F', s', r'⟩ := frz_ok i r
  exact ⟨F0, H0, F', frz i ρ, fl, ρ', r', hf, out_same s' q⟩
end

/-! ### a def -/
def runFn (n : Nat) (u : FS) (ds : List D) : Option D := match u (ds.map (fun d => some (.fz d)) ++ List.replicate (n - ds.length) none) with
  | some (.rt d, _) => some d
  | some (.nx, _) => some .non
  | _ => none
theorem start_get {N : List Str} {vs : List V} {i : Nat} {v : V} (h : vs[i]? = some v) : (L2.start N vs)[i]? = some (some v) := by
  unfold L2.start
  have hi : i < vs.length := (List.getElem?_eq_some_iff.mp h).1
  rw [List.getElem?_append_left (by simpa using hi), List.getElem?_map, h]; rfl
theorem fn_end {P : Program} {w : World} {K : Frag} {H : Hp} {vs : List V} {Q : VK} {N : List Str} {u : FS} {ar : Nat} {E : XK} (hl : ar ≤ N.length) (h : spD K ar (runFn N.length u) vs H Q E) : tDS K u { nx := fun _ H' => Q .non H', rt := Q } (L2.start N vs) H := by
  obtain ⟨F, ds, d, fh, rl, el, hd, q⟩ := h
  have hlen := rl.length
  have r : RS K F H F H (L2.start N vs) (ds.map (fun d => some (.fz d)) ++ List.replicate (N.length - ds.length) none) := {
    t0 := ⟨fh.t, fh.f⟩
    g := .refl fh.s
    len := by unfold L2.start; simp only [List.length_append, List.length_map, List.length_replicate]; omega
    fz := fun i e h1 => by
      by_cases hi : i < ds.length
      · rw [List.getElem?_append_left (by simpa using hi), List.getElem?_map] at h1
        cases z : ds[i]? with
        | none => rw [z] at h1; cases h1
        | some d' =>
          rw [z] at h1
          cases h1
          obtain ⟨v, e1, e2⟩ := rl.get z
          exact ⟨v, start_get e1, e2⟩
      · rw [List.getElem?_append_right (by simpa using hi), List.getElem?_replicate] at h1
        split at h1 <;> cases h1
    ow := fun i es h1 => by
      by_cases hi : i < ds.length
      · rw [List.getElem?_append_left (by simpa using hi), List.getElem?_map] at h1
        cases z : ds[i]? with
        | none => rw [z] at h1; cases h1
        | some d' => rw [z] at h1; cases h1
      · rw [List.getElem?_append_right (by simpa using hi), List.getElem?_replicate] at h1
        split at h1 <;> cases h1
    dj := fun i j us es a _ h1 => by
      by_cases hi : i < ds.length
      · rw [List.getElem?_append_left (by simpa using hi), List.getElem?_map] at h1
        cases z : ds[i]? with
        | none => rw [z] at h1; cases h1
        | some d' => rw [z] at h1; cases h1
      · rw [List.getElem?_append_right (by simpa using hi), List.getElem?_replicate] at h1
        split at h1 <;> cases h1 }
  unfold runFn at hd
  cases z : u (ds.map (fun d => some (.fz d)) ++ List.replicate (N.length - ds.length) none) with
  | none => rw [z] at hd; cases hd
  | some p =>
    obtain ⟨fl, ρ'⟩ := p
    rw [z] at hd
    refine ⟨F, H, F, _, fl, ρ', r, z, ?_⟩
    cases fl with
    | nx => cases hd; exact fun σ' F' H' s' r' => q .non F' H' r'.g (rep_non.mpr rfl)
    | bk => cases hd
    | ct => cases hd
    | rt d' => cases hd; exact fun v F' H' g' r' => q v F' H' g' r'
/-- THE RULE for a def of the text -/
theorem fn_ok {P : Program} {w : World} {K : Frag} {mg : Str → Option Value} {base : Heap} {k : Nat} {f : Addr} {name qual : Str} {params : Arguments} {body : List Stmt} {scope : Scope} {dV kV doc pm cdv ct oc : Value} {an od : Option Addr}
    {osl : Array (Option Value)} {N ps : List Str} {u : FS} (lk : K.lookup f = some ⟨oc, od, .func (PySem.W.fnOf name qual params body scope dV kV doc pm an cdv ct), osl⟩) (hcd : PySem.W.codeIn K cdv qual = true) (S : FnScope N ps scope)
    (hb : ∀ (A : Around) (outer : List Env) (s : Shared) (H : Hp) (E : XK), Room k (A.deeper (envOfC qual scope s.heap.objs.size f cdv)) → PSs (cxOf CX0 P w K mg base N qual scope f cdv A outer s H E).nox body (tDS K u)) :
    FnOk P w K mg base CX0 (k + 1) f (PySem.W.fnOf name qual params body scope dV kV doc pm an cdv ct) ps (spD K ps.length (runFn N.length u)) := by
  have hpl : ps.length ≤ N.length := by have := congrArg List.length S.pre; rw [List.length_take] at this; omega
  refine fn_of lk hcd S (fun vs H Q E h => ?_) fun A outer s H vs Q E hr hsp => ⟨_, (hb A outer s H E hr).nox, fn_end (P := P) (w := w) hpl hsp⟩
  obtain ⟨F, ds, d, _, rl, el, _⟩ := h
  rw [← rl.length]; exact el
end DL

set_option maxRecDepth 100000
set_option maxHeartbeats 4000000
namespace DL
open PySem PySem.Spec PyProof.Rows L2
variable [Lam]

/-! ### what is walked -/
structure ItD (K : Frag) (F : Hp) (ds : List D) (J : It) : Prop where
  go : ∀ (i : Nat) (F' H : Hp), Same F F' → Same F' H → i < ds.length → J.go i H
  yld : ∀ (i : Nat) (d : D) (F' H : Hp) (x : V) (H' : Hp), Same F F' → Same F' H → ds[i]? = some d → J.yld i H x H' → ∃ F'', Grow F' H F'' H' ∧ Rep K F'' d x
  stop : ∀ (i : Nat) (F' H : Hp), Same F F' → Same F' H → ds.length ≤ i → J.stop i H
def tDI (K : Frag) (f : FA) : TI := fun σ H R => ∃ F0 H0 F ρ ds, RS K F0 H0 F H σ ρ ∧ f ρ = some ds ∧ ∀ J F' H', Grow F H F' H' → ItD K F' ds J → R J H'
abbrev FB := D → Rho → Option Rho
abbrev FBs := List D → Rho → Option Rho
def tDG (K : Frag) (b : FB) : TG := fun v σ H Q => ∃ F0 H0 F ρ d ρ', RS K F0 H0 F H σ ρ ∧ Rep K F d v ∧ b d ρ = some ρ' ∧ ∀ σ', RS K F0 H0 F H σ' ρ' → Q σ' H
def tDGs (K : Frag) (b : FBs) : TGs := fun vs σ H Q => ∃ F0 H0 F ρ ds ρ', RS K F0 H0 F H σ ρ ∧ RepL K F ds vs ∧ b ds ρ = some ρ' ∧ ∀ σ', RS K F0 H0 F H σ' ρ' → Q σ' H
section
variable {X : Cx} {tg e : Expr} {es : List Expr} {pos : Pos}
theorem pi_imp {t t' : TI} (h : PI X tg e t) (i : ∀ σ H R, t' σ H R → t σ H R) : PI X tg e t' := fun pins s σ H R I q => h pins s σ H R I (i σ H R q)
theorem pg_imp {t t' : TG} (h : PG X e t) (i : ∀ v σ H Q, t' v σ H Q → t v σ H Q) : PG X e t' := fun pins s σ H v u Q I r q => h pins s σ H v u Q I r (i v σ H Q q)
theorem pgs_imp {t t' : TGs} (h : PGs X es t) (i : ∀ v σ H Q, t' v σ H Q → t v σ H Q) : PGs X es t' := fun pins s σ H v u Q I r q => h pins s σ H v u Q I r (i v σ H Q q)
def bN (i : Nat) : FB := fun d ρ => some (ρ.set i (some (.fz d)))
def bNil : FBs := fun ds ρ => if ds.isEmpty then some ρ else none
def bCons (b : FB) (bs : FBs) : FBs := fun ds ρ => match ds with
  | d :: r => (b d ρ).bind fun ρ' => bs r ρ'
  | [] => none
def bTup (n : Nat) (bs : FBs) : FB := fun d ρ => match d with
  | .tup ds => if ds.length = n then bs ds ρ else none
  | _ => none
theorem gd_name {i : Nat} {x : Str} (hN : X.N.Nodup) (hi : X.N[i]? = some x) (hx : Loc X.env.scope x) (hf : X.fn x = true ∨ X.env.scope.names.lookup x = some .local := by first | exact .inl rfl | exact .inr rfl | assumption) : PG X (.Name x pos) (tDG X.K (bN i)) :=
  pg_imp (pg_name hN hi hx hf) fun v σ H Q ⟨F0, H0, F, ρ, d, ρ', r, hr, hb, q⟩ => by
    cases hb
    exact q _ (r.set i hr)
theorem gd_nil : PGs X [] (tDGs X.K bNil) := pgs_imp pgs_nil fun vs σ H Q ⟨F0, H0, F, ρ, ds, ρ', r, hr, hb, q⟩ => by
  unfold bNil at hb
  split at hb
  · rename_i z
    cases hb
    have z' : ds = [] := by simpa using z
    subst z'
    exact ⟨hr.nil_inv, q σ r⟩
  · cases hb
theorem gd_cons {b : FB} {bs : FBs} (h1 : PG X e (tDG X.K b)) (h2 : PGs X es (tDGs X.K bs)) (hs : (assignEach (e :: es) X.env).map (·.2) = assign e X.env :: (assignEach es X.env).map (·.2) := by rfl) : PGs X (e :: es) (tDGs X.K (bCons b bs)) :=
  pgs_imp (pgs_cons h1 h2 hs) fun vs σ H Q ⟨F0, H0, F, ρ, ds, ρ', r, hr, hb, q⟩ => by
    cases ds with
    | nil => cases hb
    | cons d ds =>
      obtain ⟨v, vr, rfl, h3, h4⟩ := hr.cons_inv
      obtain ⟨ρ1, h5, h6⟩ := Option.bind_eq_some_iff.mp hb
      exact ⟨v, vr, rfl, F0, H0, F, ρ, d, ρ1, r, h3, h5, fun σ' r' => ⟨F0, H0, F, ρ1, ds, ρ', r', h4, h6, q⟩⟩
theorem gd_tup {k n : Nat} {bs : FBs} (hc : X.calm = true) (h : PGs X es (tDGs X.K bs)) (hn : (assignEach es X.env).length = n := by rfl) (hst : (assignEach es X.env).findIdx? (·.1) = none := by rfl) : PG X (.Tuple es k pos) (tDG X.K (bTup n bs)) :=
  pg_imp (pg_tup hc h hn hst) fun v σ H Q ⟨F0, H0, F, ρ, d, ρ', r, hr, hb, q⟩ => by
    cases d <;> simp only [bTup] at hb <;> first | (cases hb; done) | skip
    rename_i ds
    split at hb
    · rename_i hl
      obtain ⟨a, xs, rfl, h1, h2⟩ := rep_tup.mp hr
      exact ⟨a, xs, rfl, same_seqT r.fh h1, by rw [← h2.length]; exact hl, F0, H0, F, ρ, ds, ρ', r, h2, hb, q⟩
    · cases hb
/-- (a, b, ..) = e -/
def sBind (f : FE) (b : FB) : FS := fun ρ => (f ρ).bind fun d => (b d ρ).map fun ρ' => (.nx, ρ')
theorem sd_bind {f : FE} {b : FB} {ts : Expr} (he : PE X e (tD X.K f)) (hg : PG X ts (tDG X.K b)) (hs : swapsWithSole [ts] e pos.line X.env = pure false := by rfl) (hw : swappedStores [ts] e X.env = pure none := by rfl)
    (h1 : (assignEach [ts] X.env).map (·.2) = [assign ts X.env] := by rfl) : PS X (.Assign [ts] e pos) (tDS X.K (sBind f b)) := ps_imp (ps_asg he hg hs hw h1) fun D σ H ⟨F0, H0, F, ρ, fl, ρ', r, hf, q⟩ => by
  obtain ⟨d, h2, h3⟩ := Option.bind_eq_some_iff.mp hf
  obtain ⟨ρ1, h4, h5⟩ := Option.map_eq_some_iff.mp h3
  cases h5
  exact ⟨F0, H0, F, ρ, d, r, h2, fun v F' H' g' r' => ⟨F0, H0, F', ρ, d, ρ', r.grow g', r', h4, fun σ' r2 => q σ' F' H' g'.ff r2⟩⟩

/-! ### iterables -/
theorem itd_list {K : Frag} {F : Hp} {a : Addr} {xs : List V} {ds : List D} (h : SqL K F a xs) (hd : RepL K F ds xs) : ItD K F ds (Itl K a) where
  go := fun i F' H s1 s2 hi => ⟨xs, xs[i]'(by rw [← hd.length]; exact hi), (s1.trans s2).seq h, by simp⟩
  yld := fun i d F' H x H' s1 s2 hi ⟨e, y⟩ => by
    subst e
    obtain ⟨z, h1, h2⟩ := hd.get hi
    have := y xs ((s1.trans s2).seq h)
    rw [h1] at this; cases this
    exact ⟨F', .refl s2, h2.mono s1⟩
  stop := fun i F' H s1 s2 hi => ⟨xs, (s1.trans s2).seq h, by rw [← hd.length]; exact hi⟩
theorem itd_tup {K : Frag} {F : Hp} {a : Addr} {xs : List V} {ds : List D} (h : SqT K F a xs) (hd : RepL K F ds xs) : ItD K F ds (Itt K a) where
  go := fun i F' H s1 s2 hi => ⟨xs, xs[i]'(by rw [← hd.length]; exact hi), same_seqT (s1.trans s2) h, by simp⟩
  yld := fun i d F' H x H' s1 s2 hi ⟨e, y⟩ => by
    subst e
    obtain ⟨z, h1, h2⟩ := hd.get hi
    have := y xs (same_seqT (s1.trans s2) h)
    rw [h1] at this; cases this
    exact ⟨F', .refl s2, h2.mono s1⟩
  stop := fun i F' H s1 s2 hi => ⟨xs, same_seqT (s1.trans s2) h, by rw [← hd.length]; exact hi⟩
def rangeD (lo : Int) (n : Nat) : List D := (List.range n).map fun i : Nat => .int (lo + i)
theorem itd_range {K : Frag} {F : Hp} (lo : Int) (n : Nat) : ItD K F (rangeD lo n) (Itr lo n) where
  go := fun i F' H s1 s2 hi => by show i < n; simpa [rangeD] using hi
  yld := fun i d F' H x H' s1 s2 hi ⟨e, y⟩ => by
    subst e y
    simp only [rangeD, List.getElem?_map] at hi
    cases q : (List.range n)[i]? with
    | none => rw [q] at hi; cases hi
    | some j =>
      rw [q] at hi
      cases hi
      have : j = i := by
        have h2 := List.getElem?_eq_some_iff.mp q
        obtain ⟨h3, h4⟩ := h2
        rw [List.getElem_range] at h4
        exact h4.symm
      subst this
      exact ⟨F', .refl s2, rep_int.mpr rfl⟩
  stop := fun i F' H s1 s2 hi => by show n ≤ i; simpa [rangeD] using hi
def seqD : D → Option (List D)
  | .tup ds => some ds
  | .lst ds => some ds
  | _ => none
def iSeq (f : FE) : FA := fun ρ => (f ρ).bind seqD
theorem pi_or {l : Expr} {tl : TE} (hl : PE X l tl) : PI X tg l (fun σ H R => tl σ H fun x H1 => (∃ a, x = .ref a ∧ (∃ xs, SqL X.K H1 a xs) ∧ R (Itl X.K a) H1) ∨ (∃ a, x = .ref a ∧ (∃ xs, SqT X.K H1 a xs) ∧ R (Itt X.K a) H1)) := by
  intro pins s σ H R I h
  refine thn (hl pins s σ H _ I h) fun v s1 ⟨x, H1, I1, r1, q1⟩ => ?_
  rcases q1 with ⟨a, e, ⟨xs, hq⟩, q⟩ | ⟨a, e, ⟨xs, hq⟩, q⟩
  · subst e
    cases r1
    obtain ⟨its, rv, p, hz⟩ := I1.list hq
    refine wpAny_pyIter_list p.isList ?_
    refine ⟨s1.heap.objs.size, [s1.heap.objs.size], _, _, H1, rfl, I1.kept (t' := s1.toks) fun b o e => Heap.get?_push_of_some _ e, turn_list a _, ⟨_, Heap.get?_push_size _ rfl, rfl, rfl⟩, fun b hb => ?_, q⟩
    have e : b = s1.heap.objs.size := by simpa using hb
    subst e
    exact I1.fpOk (Nat.le_refl _) (I1.hok.fresh (Nat.le_refl _))
  · subst e
    cases r1
    obtain ⟨its, rv, p, hz⟩ := I1.tuple hq
    refine wpAny_pyIter_tuple (show s1.heap.IsTuple a its.toArray from p) ?_
    refine ⟨s1.heap.objs.size, [s1.heap.objs.size], _, _, H1, rfl, I1.kept (t' := s1.toks) fun b o e => Heap.get?_push_of_some _ e, turn_tuple a _, ⟨_, Heap.get?_push_size _ rfl, rfl, rfl⟩, fun b hb => ?_, q⟩
    have e : b = s1.heap.objs.size := by simpa using hb
    subst e
    exact I1.fpOk (Nat.le_refl _) (I1.hok.fresh (Nat.le_refl _))
theorem id_seq {f : FE} (h : PE X e (tD X.K f)) : PI X tg e (tDI X.K (iSeq f)) := pi_imp (pi_or h) fun σ H R ⟨F0, H0, F, ρ, ds, r, hf, q⟩ => by
  obtain ⟨d, h1, h2⟩ := Option.bind_eq_some_iff.mp hf
  refine ⟨F0, H0, F, ρ, d, r, h1, fun v F' H' g' r' => ?_⟩
  cases d <;> simp only [seqD] at h2 <;> first | (cases h2; done) | skip
  · cases h2
    obtain ⟨a, xs, rfl, h3, h4⟩ := rep_tup.mp r'
    exact .inr ⟨a, rfl, ⟨xs, same_seqT g'.fh h3⟩, q _ F' H' g' (itd_tup h3 h4)⟩
  · cases h2
    obtain ⟨a, xs, rfl, h3, h4⟩ := rep_lst.mp r'
    exact .inl ⟨a, rfl, ⟨xs, g'.fh.seq h3⟩, q _ F' H' g' (itd_list h3 h4)⟩
def iR1 (fa : FA) : FA := fun ρ => (fa ρ).bind fun ds => match ds with
  | [.int j] => if decide (-(2 ^ 62) ≤ j) && decide (j < 2 ^ 62) then some (rangeD 0 j.toNat) else none
  | _ => none
def iR2 (fa : FA) : FA := fun ρ => (fa ρ).bind fun ds => match ds with
  | [.int i, .int j] => if (decide (-(2 ^ 62) ≤ i) && decide (i < 2 ^ 62)) && (decide (-(2 ^ 62) ≤ j) && decide (j < 2 ^ 62)) then some (rangeD i (j - i).toNat) else none
  | _ => none
theorem id_range1 {a : Expr} {fa : FA} {p : Pos} (hg : Gl X "range") (hm : X.mg "range" = none) (ha : PA X [a] (tDA X.K fa)) (hs : starEach [a] X.env = [(false, eval a X.env)] := by rfl) : PI X tg (.Call (.Name "range" p) [a] [] pos) (tDI X.K (iR1 fa)) :=
  pi_imp (pi_range1 hg hm ha hs) fun σ H R ⟨F0, H0, F, ρ, ds, r, hf, q⟩ => by
    obtain ⟨es, h1, h2⟩ := Option.bind_eq_some_iff.mp hf
    refine ⟨F0, H0, F, ρ, es, r, h1, fun vs F' H' g' r' => ?_⟩
    split at h2
    · rename_i j
      split at h2
      · rename_i z
        cases h2
        obtain ⟨x, t, rfl, h3, h4⟩ := r'.cons_inv
        cases h4.nil_inv
        obtain ⟨z1, z2⟩ := and_dec z
        exact ⟨j, by rw [rep_int.mp h3], z1, z2, q _ F' H' g' (itd_range 0 _)⟩
      · cases h2
    · cases h2
theorem id_range2 {a b : Expr} {fa : FA} {p : Pos} (hg : Gl X "range") (hm : X.mg "range" = none) (ha : PA X [a, b] (tDA X.K fa)) (hs : starEach [a, b] X.env = [(false, eval a X.env), (false, eval b X.env)] := by rfl) (hs2 : starEach [b] X.env = [(false, eval b X.env)] := by rfl) :
    PI X tg (.Call (.Name "range" p) [a, b] [] pos) (tDI X.K (iR2 fa)) :=
  pi_imp (pi_range2 hg hm ha hs hs2) fun σ H R ⟨F0, H0, F, ρ, ds, r, hf, q⟩ => by
    obtain ⟨es, h1, h2⟩ := Option.bind_eq_some_iff.mp hf
    refine ⟨F0, H0, F, ρ, es, r, h1, fun vs F' H' g' r' => ?_⟩
    split at h2
    · rename_i i j
      split at h2
      · rename_i z
        cases h2
        obtain ⟨x, t, rfl, h3, h4⟩ := r'.cons_inv
        obtain ⟨x2, t2, rfl, h5, h6⟩ := h4.cons_inv
        cases h6.nil_inv
        rw [Bool.and_eq_true] at z
        obtain ⟨z1, z2⟩ := and_dec z.1
        obtain ⟨z3, z4⟩ := and_dec z.2
        exact ⟨i, j, by rw [rep_int.mp h3, rep_int.mp h5], ⟨z1, z2, z3, z4⟩, q _ F' H' g' (itd_range _ _)⟩
      · cases h2
    · cases h2

/-! ### for -/
def runFor (b : FB) (body : FS) : List D → Rho → Option (Fl × Rho)
  | [], ρ => some (.nx, ρ)
  | d :: ds, ρ => (b d ρ).bind fun ρ1 => (body ρ1).bind fun r => match r with
    | (.nx, ρ2) => runFor b body ds ρ2
    | (.ct, ρ2) => runFor b body ds ρ2
    | (.bk, ρ2) => some (.nx, ρ2)
    | (.rt v, ρ2) => some (.rt v, ρ2)
def sFor (it : FA) (b : FB) (body : FS) : FS := fun ρ => (it ρ).bind fun ds => runFor b body ds ρ
theorem sd_for {iter : Expr} {body : List Stmt} {it : FA} {b : FB} {u : FS} (hp : PassesOwn (model X.prog X.w) X.A X.env X.xe) (hc : X.calm = true) (hi : PI X tg iter (tDI X.K it)) (hg : PG X tg (tDG X.K b)) (hb : PSs X body (tDS X.K u))
    (hs : ∀ x, foldedSetIterable iter X.env x = pure x := by intro _; rfl) : PS X (.For tg iter body [] pos) (tDS X.K (sFor it b u)) := ps_imp (ps_for hp hc hi hg hb hs) fun D σ H ⟨F0, H0, F, ρ, fl, ρ', r, hf, q⟩ => by
  obtain ⟨ds, h1, h2⟩ := Option.bind_eq_some_iff.mp hf
  refine ⟨F0, H0, F, ρ, ds, r, h1, fun J F1 H1 g1 itd => ?_⟩
  refine ⟨fun i m σ H => m = ds.length - i ∧ i ≤ ds.length ∧ ∃ F' ρi, Same F1 F' ∧ RS X.K F0 H0 F' H σ ρi ∧ runFor b u (ds.drop i) ρi = some (fl, ρ'), ⟨ds.length, by simp, Nat.zero_le _, F1, ρ, .refl _, r.grow g1, by simpa using h2⟩, ?_⟩
  rintro i m σ H ⟨rfl, hi, F', ρi, s1, r1, h3⟩
  by_cases hlt : i < ds.length
  · have hd : ds.drop i = ds[i] :: ds.drop (i + 1) := List.drop_eq_getElem_cons hlt
    rw [hd] at h3
    obtain ⟨ρ1, h4, h5⟩ := Option.bind_eq_some_iff.mp h3
    obtain ⟨⟨fl1, ρ2⟩, h6, h7⟩ := Option.bind_eq_some_iff.mp h5
    refine .inr ⟨itd.go i F' H s1 r1.fh hlt, fun σ' H' => ∃ F', Same F1 F' ∧ RS X.K F0 H0 F' H' σ' ρ2 ∧ runFor b u (ds.drop (i + 1)) ρ2 = some (fl, ρ'), fun σ' H' ⟨F', z1, z2, z3⟩ => ⟨ds.length - (i + 1), by omega, rfl, hlt, F', ρ2, z1, z2, z3⟩, fun x H' y => ?_⟩
    obtain ⟨F2, g2, r2⟩ := itd.yld i ds[i] F' H x H' s1 r1.fh (by simp [hlt]) y
    refine ⟨F0, H0, F2, ρi, ds[i], ρ1, r1.grow g2, r2, h4, fun σ' r3 => ⟨F0, H0, F2, ρ1, fl1, ρ2, r3, h6, ?_⟩⟩
    cases fl1 with
    | nx => exact fun σ2 F3 H3 s3 r4 => ⟨F3, (s1.trans g2.ff).trans s3, r4, h7⟩
    | ct => exact fun σ2 F3 H3 s3 r4 => ⟨F3, (s1.trans g2.ff).trans s3, r4, h7⟩
    | bk => cases h7; exact fun σ2 F3 H3 s3 r4 => q σ2 F3 H3 ((g1.ff.trans (s1.trans g2.ff)).trans s3) r4
    | rt d => cases h7; exact q
  · have e : i = ds.length := by omega
    subst e
    rw [List.drop_length] at h3
    cases h3
    exact .inl ⟨itd.stop _ F' H s1 r1.fh (Nat.le_refl _), q σ F' H (g1.ff.trans s1) r1⟩

/-! ### while -/
def runWhile (t : FT) (body : FS) : Nat → Rho → Option (Fl × Rho)
  | 0, _ => none
  | n + 1, ρ => (t ρ).bind fun c => if c then (body ρ).bind fun r => match r with
      | (.nx, ρ2) => runWhile t body n ρ2
      | (.ct, ρ2) => runWhile t body n ρ2
      | (.bk, ρ2) => some (.nx, ρ2)
      | (.rt v, ρ2) => some (.rt v, ρ2)
    else some (.nx, ρ)
theorem sd_while {c : Expr} {body : List Stmt} {t : FT} {u : FS} (n : Nat) (hp : PassesOwn (model X.prog X.w) X.A X.env X.xe) (hc : PT X c (tDT X.K t)) (hb : PSs X body (tDS X.K u)) : PS X (.While c body [] pos) (tDS X.K (runWhile t u n)) :=
  ps_imp (ps_while hp hc hb) fun D σ H ⟨F0, H0, F, ρ, fl, ρ', r, hf, q⟩ => by
    refine ⟨fun m σ H => ∃ F' ρi, Same F F' ∧ RS X.K F0 H0 F' H σ ρi ∧ runWhile t u m ρi = some (fl, ρ'), ⟨n, F, ρ, .refl _, r, hf⟩, ?_⟩
    rintro m σ H ⟨F', ρi, s1, r1, h1⟩
    cases m with
    | zero => cases h1
    | succ m =>
      obtain ⟨c, h2, h3⟩ := Option.bind_eq_some_iff.mp h1
      refine ⟨F0, H0, F', ρi, c, r1, h2, fun F2 H2 g2 => ?_⟩
      cases c with
      | false => rw [if_neg Bool.false_ne_true] at h3 ⊢; cases h3; exact q σ F2 H2 (s1.trans g2.ff) (r1.grow g2)
      | true =>
        rw [if_pos rfl] at h3 ⊢
        obtain ⟨⟨fl1, ρ2⟩, h6, h7⟩ := Option.bind_eq_some_iff.mp h3
        refine ⟨fun σ' H' => ∃ F', Same F F' ∧ RS X.K F0 H0 F' H' σ' ρ2 ∧ runWhile t u m ρ2 = some (fl, ρ'), fun σ' H' ⟨F', z1, z2, z3⟩ => ⟨m, Nat.lt_succ_self _, F', ρ2, z1, z2, z3⟩, F0, H0, F2, ρi, fl1, ρ2, r1.grow g2, h6, ?_⟩
        cases fl1 with
        | nx => exact fun σ2 F3 H3 s3 r4 => ⟨F3, (s1.trans g2.ff).trans s3, r4, h7⟩
        | ct => exact fun σ2 F3 H3 s3 r4 => ⟨F3, (s1.trans g2.ff).trans s3, r4, h7⟩
        | bk => cases h7; exact fun σ2 F3 H3 s3 r4 => q σ2 F3 H3 ((s1.trans g2.ff).trans s3) r4
        | rt d => cases h7; exact q
end
end DL

set_option maxRecDepth 100000
set_option maxHeartbeats 4000000
namespace DL
open PySem PySem.Spec PyProof.Rows L2
variable [Lam]

/-! ### comprehensions -/
def fzOf : Option B → Option B
  | some (.fz d) => some (.fz d)
  | _ => none
def capR (cap : List (Option Nat)) (ρ : Rho) : Rho := cap.map fun o => o.bind fun j => fzOf (ρ[j]?).join
/-- what the one knows the other knows -/
structure Sub (ρ ρ' : Rho) : Prop where
  len : ρ.length = ρ'.length
  sub : ∀ (i : Nat) (b : B), ρ[i]? = some (some b) → ρ'[i]? = some (some b)
theorem RS.weak {K : Frag} {F0 H0 F H : Hp} {σ : St} {ρ ρ' : Rho} (r : RS K F0 H0 F H σ ρ') (s : Sub ρ ρ') : RS K F0 H0 F H σ ρ where
  t0 := r.t0
  g := r.g
  len := by rw [s.len]; exact r.len
  fz := fun i d e => r.fz i d (s.sub i _ e)
  ow := fun i ds e => r.ow i ds (s.sub i _ e)
  dj := fun i j ds es a h e1 e2 => r.dj i j ds es a h (s.sub i _ e1) (s.sub j _ e2)
/-- nothing of its own -/
def NoOwn (ρ : Rho) : Prop := ∀ (i : Nat) (ds : List D), ρ[i]? ≠ some (some (.ow ds))
theorem noOwn_cap (cap : List (Option Nat)) (ρ : Rho) : NoOwn (capR cap ρ) := fun i ds h => by
  unfold capR at h
  rw [List.getElem?_map] at h
  cases q : cap[i]? with
  | none => rw [q] at h; cases h
  | some o =>
    rw [q] at h
    cases o with
    | none => cases h
    | some j =>
      simp only [Option.map_some, Option.bind_some, Option.some.injEq] at h
      generalize (ρ[j]?).join = z at h
      cases z with
      | none => cases h
      | some b => cases b <;> cases h
theorem rs_cap {K : Frag} {F0 H0 F H : Hp} {σ : St} {ρ : Rho} (cap : List (Option Nat)) (r : RS K F0 H0 F H σ ρ) : RS K F H F H (capS cap σ) (capR cap ρ) where
  t0 := ⟨r.tab, r.tabF⟩
  g := .refl r.fh
  len := by unfold capS capR; rw [List.length_map, List.length_map]
  fz := fun i d h => by
    unfold capR at h
    rw [List.getElem?_map] at h
    cases q : cap[i]? with
    | none => rw [q] at h; cases h
    | some o =>
      rw [q] at h
      cases o with
      | none => cases h
      | some j =>
        simp only [Option.map_some, Option.bind_some, Option.some.injEq] at h
        have e : ρ[j]? = some (some (.fz d)) := by
          cases z : ρ[j]? with
          | none => rw [z] at h; cases h
          | some b =>
            rw [z] at h
            cases b with
            | none => cases h
            | some b => cases b with
              | fz d' => cases h; rfl
              | ow _ => cases h
        obtain ⟨v, e1, e2⟩ := r.fz j d e
        refine ⟨v, ?_, e2⟩
        unfold capS
        rw [List.getElem?_map, q]
        simp only [Option.map_some, Option.bind_some, e1, Option.join_some]
  ow := fun i ds h => absurd h (noOwn_cap cap ρ i ds)
  dj := fun i j ds es a _ h => absurd h (noOwn_cap cap ρ i ds)
/-- an object that no slot holds is rewritten -/
theorem RS.other {K : Frag} {F0 H0 F H : Hp} {σ : St} {ρ : Rho} (r : RS K F0 H0 F H σ ρ) (no : NoOwn ρ) {p : Addr} {o : HO} (h1 : F p = none) (h2 : H0 p = none) (h3 : H p = none ∨ ∃ xs, H p = some (.lst xs)) : RS K F0 H0 F (upd H p o) σ ρ where
  t0 := r.t0
  g := ⟨r.g.ff, ⟨fun b u e => by rw [upd_ne (fun z => by subst z; rw [h2] at e; cases e)]; exact r.g.hh.lst b u e, fun b u e => by rw [upd_ne (fun z => by subst z; rw [h2] at e; cases e)]; exact r.g.hh.ext b u e, fun {b} e => by
      by_cases z : b = p
      · subst z; exact h2
      · rw [upd_ne z] at e; exact r.g.hh.free e, fun t => (r.g.hh.tb t).upd h3⟩, fun b u e => by rw [upd_ne (fun z => by subst z; rw [h1] at e; cases e)]; exact r.g.fh b u e, r.g.nw⟩
  len := r.len
  fz := r.fz
  ow := fun i ds h => absurd h (no i ds)
  dj := fun i j ds es a _ h => absurd h (no i ds)
theorem grow_none {F H F' H' : Hp} {p : Addr} (g : Grow F H F' H') (h1 : F p = none) {o : HO} (h2 : H p = some o) : F' p = none := by
  cases q : F' p with
  | none => rfl
  | some u =>
    rcases g.nw p (by rw [q]; simp) with z | z
    · exact absurd h1 z
    · rw [h2] at z; cases z
def runComp (b : FB) (c : FT) (f : FE) (ρ : Rho) : List D → Option (List D)
  | [] => some []
  | d :: ds => (b d ρ).bind fun ρ1 => (c ρ1).bind fun t => if t then (f ρ1).bind fun y => (runComp b c f ρ ds).map fun ys => y :: ys else runComp b c f ρ ds
theorem runComp_len {b : FB} {c : FT} {f : FE} {ρ : Rho} : ∀ {ds ys : List D}, runComp b c f ρ ds = some ys → ys.length ≤ ds.length
  | [], ys, h => by cases h; exact Nat.le_refl _
  | d :: ds, ys, h => by
    obtain ⟨ρ1, h1, h⟩ := Option.bind_eq_some_iff.mp h
    obtain ⟨t, h2, h⟩ := Option.bind_eq_some_iff.mp h
    cases t with
    | false => rw [if_neg Bool.false_ne_true] at h; exact Nat.le_succ_of_le (runComp_len h)
    | true =>
      rw [if_pos rfl] at h
      obtain ⟨y, h3, h⟩ := Option.bind_eq_some_iff.mp h
      obtain ⟨zs, h4, h⟩ := Option.map_eq_some_iff.mp h
      subst h
      exact Nat.succ_le_succ (runComp_len h4)
def cTrue : FT := fun _ => some true
def lComp (it : FA) (cap : List (Option Nat)) (b : FB) (c : FT) (f : FE) : FA := fun ρ => (it ρ).bind fun ds => if ds.length ≤ lim then runComp b c f (capR cap ρ) ds else none
/-- the target's names are none that are captured -/
def Fresh (b : FB) (cap : List (Option Nat)) : Prop := ∀ ρ d ρ', b d (capR cap ρ) = some ρ' → Sub (capR cap ρ) ρ' ∧ NoOwn ρ'

section
variable {X : Cx}
theorem pifs_imp {ifs : List Expr} {t t' : TT} (h : PIfs X ifs t) (i : ∀ σ H Q, t' σ H Q → t σ H Q) : PIfs X ifs t' := fun pins s σ H Q I q => h pins s σ H Q I (i σ H Q q)
theorem cd_nil : PIfs X [] (tDT X.K cTrue) := pifs_imp pifs_nil fun σ H Q ⟨F0, H0, F, ρ, b, r, hf, q⟩ => by cases hf; exact q F H (.refl r.fh)
theorem cd_one {c : Expr} {t : FT} (h : PT X c (tDT X.K t)) : PIfs X [c] (tDT X.K t) := pifs_one h

theorem comp_D {K : Frag} {it : FA} {cap : List (Option Nat)} {b : FB} {c : FT} {f : FE} {σ : St} {H : Hp} {Q : VK} (fr : Fresh b cap) (h : tL K (lComp it cap b c f) σ H Q) : tComp (tDI K it) cap (tDG K b) (tDT K c) (tD K f) σ H Q := by
  obtain ⟨F0, H0, F, ρ, zs, r, hf, q⟩ := h
  obtain ⟨ds, h1, h2⟩ := Option.bind_eq_some_iff.mp hf
  have hlim : ds.length ≤ lim := Decidable.byContradiction fun z => by rw [if_neg z] at h2; cases h2
  rw [if_pos hlim] at h2
  refine ⟨F0, H0, F, ρ, ds, r, h1, fun J F1 H1 g1 itd p hp => ?_⟩
  have rc := rs_cap cap (r.grow g1)
  have hF1 : F1 p = none := g1.fh.free hp
  refine ⟨fun i m σ H => m = ds.length - i ∧ i ≤ ds.length ∧ ∃ F' xs ys us, Same F1 F' ∧ RS K F1 H1 F' H σ (capR cap ρ) ∧ H p = some (.lst xs) ∧ F' p = none ∧ RepL K F' ys xs ∧ runComp b c f (capR cap ρ) (ds.drop i) = some us ∧ ys ++ us = zs ∧ ys.length ≤ i,
    ⟨ds.length, by simp, Nat.zero_le _, F1, [], [], zs, .refl _, rc.other (noOwn_cap cap ρ) hF1 hp (.inl hp), upd_same, hF1, .nil, by simpa using h2, rfl, Nat.le_refl _⟩, ?_⟩
  rintro i m σ' H' ⟨rfl, hi, F', xs, ys, us, s1, r1, hl, hn, ry, h3, h4, hyi⟩
  by_cases hlt : i < ds.length
  · have hd : ds.drop i = ds[i] :: ds.drop (i + 1) := List.drop_eq_getElem_cons hlt
    rw [hd] at h3
    obtain ⟨ρ1, h5, h3⟩ := Option.bind_eq_some_iff.mp h3
    obtain ⟨t, h6, h3⟩ := Option.bind_eq_some_iff.mp h3
    obtain ⟨sb, no1⟩ := fr ρ _ _ h5
    refine .inr ⟨itd.go i F' H' s1 r1.fh hlt, fun x H'' y => ?_⟩
    obtain ⟨F2, g2, r2⟩ := itd.yld i ds[i] F' H' x H'' s1 r1.fh (by simp [hlt]) y
    refine ⟨F1, H1, F2, capR cap ρ, ds[i], ρ1, r1.grow g2, r2, h5, fun σ2 r3 => ⟨F1, H1, F2, ρ1, t, r3, h6, fun F3 H3 g3 => ?_⟩⟩
    have r4 := r3.grow g3
    have hl2 := g2.hh.lst _ _ hl
    have hn2 := grow_none g2 hn hl
    have hl3 := g3.hh.lst _ _ hl2
    have hn3 := grow_none g3 hn2 hl2
    cases t with
    | false =>
      rw [if_neg Bool.false_ne_true] at h3
      exact iteF ⟨ds.length - (i + 1), by omega, rfl, hlt, F3, xs, ys, us, (s1.trans g2.ff).trans g3.ff, r4.weak sb, hl3, hn3, ry.mono (g2.ff.trans g3.ff), h3, h4, Nat.le_succ_of_le hyi⟩
    | true =>
      rw [if_pos rfl] at h3
      obtain ⟨yd, h7, h3⟩ := Option.bind_eq_some_iff.mp h3
      obtain ⟨us', h8, h9⟩ := Option.map_eq_some_iff.mp h3
      refine iteT ⟨F1, H1, F3, ρ1, yd, r4, h7, fun v F4 H4 g4 r5 => ?_⟩
      have hl4 := g4.hh.lst _ _ hl3
      have hn4 := grow_none g4 hn3 hl3
      have ss : Same F' F4 := (g2.ff.trans g3.ff).trans g4.ff
      refine ⟨xs, hl4, lim_size' (by have := ry.length; omega), ds.length - (i + 1), by omega, rfl, hlt, F4, xs ++ [v], ys ++ [yd], us', (s1.trans ss), ?_, upd_same, hn4, (ry.mono ss).append (.cons r5 .nil), h8, ?_, ?_⟩
      · exact ((r4.grow g4).weak sb).other (noOwn_cap cap ρ) hn4 hp (.inr ⟨_, hl4⟩)
      · rw [List.append_assoc, List.singleton_append, h9]; exact h4
      · rw [List.length_append, List.length_singleton]; omega
  · have e : i = ds.length := by omega
    subst e
    rw [List.drop_length] at h3
    cases h3
    rw [List.append_nil] at h4
    subst h4
    have gg : Grow F1 H1 F' H' := r1.g
    exact .inl ⟨itd.stop _ F' H' s1 r1.fh (Nat.le_refl _), q p xs F' H' (g1.trans gg) hn (g1.hh.free hp) hl ry⟩
variable {N' : List Str} {scope : Scope} {cap : List (Option Nat)} {tg iter elt : Expr} {ifs : List Expr} {it : FA} {b : FB} {c : FT} {f : FE} {pos : Pos}
theorem ld_comp (hc : X.calm = true) (co : CapOk X N' scope cap) (fr : Fresh b cap) (hi : PI X tg iter (tDI X.K it))
    (hg : ∀ cl C s₀ H₀ fp, PG (cxComp X N' scope cl C s₀ H₀ fp) tg (tDG X.K b)) (hcs : ∀ cl C s₀ H₀ fp, PIfs (cxComp X N' scope cl C s₀ H₀ fp) ifs (tDT X.K c)) (he : ∀ cl C s₀ H₀ fp, PE (cxComp X N' scope cl C s₀ H₀ fp) elt (tD X.K f))
    (hs : ∀ x, foldedSetIterable iter X.env x = pure x := by intro _; rfl) : PE X (.ListComp elt [⟨tg, iter, ifs, 0⟩] scope pos) (tL X.K (lComp it cap b c f)) :=
  pe_imp (pe_comp hc co hi hg hcs he hs) fun σ H Q h => comp_D fr h
theorem sd_comp {i : Nat} {x : Str} {px pe : Pos} (hc : X.calm = true) (hN : X.N.Nodup) (hx0 : X.N[i]? = some x) (hx : X.env.scope.names.lookup x = some .local) (co : CapOk X N' scope cap) (fr : Fresh b cap) (hi : PI X tg iter (tDI X.K it))
    (hg : ∀ cl C s₀ H₀ fp, PG (cxComp X N' scope cl C s₀ H₀ fp) tg (tDG X.K b)) (hcs : ∀ cl C s₀ H₀ fp, PIfs (cxComp X N' scope cl C s₀ H₀ fp) ifs (tDT X.K c)) (he : ∀ cl C s₀ H₀ fp, PE (cxComp X N' scope cl C s₀ H₀ fp) elt (tD X.K f))
    (hsw : swapsWith (.ListComp elt [⟨tg, iter, ifs, 0⟩] scope pe) (some (.Name x px)) pos.line X.env = pure true := by rfl)
    (hs : ∀ x, foldedSetIterable iter X.env x = pure x := by intro _; rfl) : PS X (.Assign [.Name x px] (.ListComp elt [⟨tg, iter, ifs, 0⟩] scope pe) pos) (tDS X.K (sOwn i (lComp it cap b c f))) :=
  ps_imp (ps_setComp hc hN hx0 hx co hi hg hcs he hsw hs) fun D σ H h => comp_D fr (asg_L h)
end
/-! the targets of a comprehension -/
theorem cap_none {cap : List (Option Nat)} {ρ : Rho} {i : Nat} (h : cap[i]? = some none) : (capR cap ρ)[i]? = some none := by
  unfold capR; rw [List.getElem?_map, h]; rfl
theorem set_sub {ρ ρ' : Rho} {i : Nat} {b : Option B} (s : Sub ρ ρ') (h : ρ[i]? = some none) : Sub ρ (ρ'.set i b) :=
  ⟨by rw [List.length_set]; exact s.len, fun j c e => by
    by_cases q : j = i
    · subst q; rw [h] at e; cases e
    · rw [List.getElem?_set_ne (Ne.symm q)]; exact s.sub j c e⟩
theorem noOwn_set {ρ : Rho} {i : Nat} {d : D} (h : NoOwn ρ) : NoOwn (ρ.set i (some (.fz d))) := fun j ds e => by
  by_cases q : j = i
  · subst q
    obtain ⟨z, _⟩ := get_set_eq e
    cases z
  · rw [List.getElem?_set_ne (Ne.symm q)] at e; exact h j ds e
theorem Sub.refl (ρ : Rho) : Sub ρ ρ := ⟨rfl, fun _ _ h => h⟩
theorem fresh_name {cap : List (Option Nat)} {i : Nat} (h : cap[i]? = some none) : Fresh (bN i) cap := fun ρ d ρ' e => by
  cases e
  exact ⟨set_sub (.refl _) (cap_none h), noOwn_set (noOwn_cap cap ρ)⟩
def FreshS (bs : FBs) (cap : List (Option Nat)) : Prop := ∀ ρ ds ρ1 ρ', Sub (capR cap ρ) ρ1 → NoOwn ρ1 → bs ds ρ1 = some ρ' → Sub (capR cap ρ) ρ' ∧ NoOwn ρ'
theorem freshS_nil {cap : List (Option Nat)} : FreshS bNil cap := fun ρ ds ρ1 ρ' s n e => by
  unfold bNil at e
  split at e
  · cases e; exact ⟨s, n⟩
  · cases e
theorem freshS_cons {cap : List (Option Nat)} {i : Nat} {bs : FBs} (h : cap[i]? = some none) (t : FreshS bs cap) : FreshS (bCons (bN i) bs) cap := fun ρ ds ρ1 ρ' s n e => by
  cases ds with
  | nil => cases e
  | cons d ds => exact t ρ ds _ ρ' (set_sub s (cap_none h)) (noOwn_set n) e
theorem fresh_tup {cap : List (Option Nat)} {n : Nat} {bs : FBs} (t : FreshS bs cap) : Fresh (bTup n bs) cap := fun ρ d ρ' e => by
  cases d <;> simp only [bTup] at e <;> first | (cases e; done) | skip
  split at e
  · exact t ρ _ _ ρ' (.refl _) (noOwn_cap cap ρ) e
  · cases e
/-! a check for a comprehension's names -/
def capB (outer : List (Str × NameKind)) (N N' : List Str) (scope : Scope) (cap : List (Option Nat)) : Bool :=
  scope.names.all (fun y => !(y.2 == .cell)) && (scope.names.all (fun y => !(y.2 == .local) || (scope.names.lookup y.1 == some .local)) && (scope.names.all (fun y => !(y.2 == .free) || (outer.lookup y.1 == some .cell) || (outer.lookup y.1 == some .free)) &&
    (cap.length == N'.length && (List.range cap.length).all fun i => match (cap[i]?).join with
      | none => true
      | some j => match N'[i]? with
        | none => false
        | some x => N[j]? == some x && scope.names.lookup x == some .free)))
theorem capOk_of {X : Cx} {N' : List Str} {scope : Scope} {cap : List (Option Nat)} (hk : scope.kind = .function) (h : capB X.env.scope.names X.N N' scope cap = true) : CapOk X N' scope cap := by
  unfold capB at h
  simp only [Bool.and_eq_true, List.all_eq_true] at h
  obtain ⟨h1, h2, h3, h4, h5⟩ := h
  refine ⟨hk, fun y hy e => ?_, fun y hy e => ?_, fun y hy e => ?_, by simpa using h4, fun i j e => ?_⟩
  · have := h1 y hy; rw [e] at this; cases this
  · have := h2 y hy; rw [e] at this; simpa using this
  · have := h3 y hy
    rw [e] at this
    simp only [beq_self_eq_true, Bool.not_true, Bool.false_or, Bool.or_eq_true, beq_iff_eq] at this
    exact this
  · have hi : i < cap.length := (List.getElem?_eq_some_iff.mp e).1
    have := h5 i (List.mem_range.mpr hi)
    rw [e] at this
    simp only [Option.join_some] at this
    split at this
    · cases this
    · rename_i x hx
      simp only [Bool.and_eq_true, beq_iff_eq] at this
      exact ⟨x, hx, this.1, this.2⟩
end DL

set_option maxRecDepth 100000
set_option maxHeartbeats 4000000
namespace DL
open PySem PySem.Spec PyProof.Rows L2
variable [Lam]
section
variable {X : Cx} {e : Expr} {es : List Expr} {pos : Pos} {f g : FE} {fa : FA}

/-! ### isinstance(x, T), T a built-in type -/
inductive Ty where
  | int | bool | tuple | list | str | dict
def Ty.name : Ty → String
  | .int => "int" | .bool => "bool" | .tuple => "tuple" | .list => "list" | .str => "str" | .dict => "dict"
def isiD : Ty → D → Bool
  | .int, .int _ => true
  | .int, .bl _ => true
  | .bool, .bl _ => true
  | .tuple, .tup _ => true
  | .list, .lst _ => true
  | .str, .str _ => true
  | .dict, .dct _ _ => true
  | .dict, .dtt _ _ => true
  | _, _ => false
theorem isi_none {prog : Program} {w : World} {A : Around} {E : Value → Shared → Prop} {s : Shared} {Q : Value → Shared → Prop} {K : Frag} {T : String} {b : Bool} (hk : K.In s.heap) (h : ∀ tk, Q (.bool b) { s with toks := tk }) (hT : PySem.W.kitOne K (.type "NoneType") (.type T) = some b) :
    wpAny (model prog w) A (call (.builtin "isinstance") [.none, .type T]) Q E s := PySem.W.kia_one PySem.W.kitx_none hk True.intro hT (fun z => nomatch z) h
theorem call_isi (T : Ty) : CallR X (.builtin "isinstance") (fun xs H Q => ∃ x F d, xs = [x, .ty T.name] ∧ Same F H ∧ Rep X.K F d x ∧ Q (.bl (isiD T d)) H) := by
  intro pins s σ H xs us Q I r h
  obtain ⟨x, F, d, rfl, fh, rd, q⟩ := h
  obtain ⟨u, w', rfl, rx, rt⟩ := r.two
  obtain rfl : w' = Value.type T.name := rt
  have fin : ∀ {b : Bool}, Q (.bl b) H → EP X pins σ Q (.bool b) s := fun q => ⟨.bl _, H, I, rfl, q⟩
  have fin1 : ∀ {b : Bool}, Q (.bl b) H → EP X pins σ Q (.bool b) { s with toks := s.toks + 1 } := fun q => ⟨.bl _, H, I.tok _, rfl, q⟩
  cases d with
  | non =>
    cases rep_non.mp rd
    cases rx
    cases T <;> exact isi_none I.kIn (fun tk => ⟨.bl _, H, I.tok _, rfl, q⟩) (by rfl)
  | bl b =>
    cases rep_bl.mp rd
    cases rx
    cases T
    · exact IsiPair.bool_int (fin q)
    · exact IsiPair.bool_bool (fin q)
    · exact IsiPair.bool_tuple (fin1 q)
    · exact IsiPair.bool_list (fin1 q)
    · exact IsiPair.bool_str (fin1 q)
    · exact IsiPair.bool_dict (fin1 q)
  | int i =>
    cases rep_int.mp rd
    obtain ⟨t, rfl⟩ := rx
    cases T
    · exact IsiPair.int_int (fin q)
    · exact IsiPair.int_bool (fin1 q)
    · exact IsiPair.int_tuple (fin1 q)
    · exact IsiPair.int_list (fin1 q)
    · exact IsiPair.int_str (fin1 q)
    · exact IsiPair.int_dict (fin1 q)
  | str z =>
    cases rep_str.mp rd
    obtain ⟨t, rfl⟩ := rx
    cases T
    · exact IsiPair.str_int (fin1 q)
    · exact IsiPair.str_bool (fin1 q)
    · exact IsiPair.str_tuple (fin1 q)
    · exact IsiPair.str_list (fin1 q)
    · exact IsiPair.str_str (fin q)
    · exact IsiPair.str_dict (fin1 q)
  | tup ds =>
    obtain ⟨a, ys, rfl, h1, h2⟩ := rep_tup.mp rd
    cases rx
    obtain ⟨its, _, ⟨o, ho, hc, _⟩, _⟩ := I.tuple (same_seqT fh h1)
    cases T
    · exact IsiPair.tuple_int ho hc (fin1 q)
    · exact IsiPair.tuple_bool ho hc (fin1 q)
    · exact IsiPair.tuple_tuple ho hc (fin q)
    · exact IsiPair.tuple_list ho hc (fin1 q)
    · exact IsiPair.tuple_str ho hc (fin1 q)
    · exact IsiPair.tuple_dict ho hc (fin1 q)
  | lst ds =>
    obtain ⟨a, ys, rfl, h1, h2⟩ := rep_lst.mp rd
    cases rx
    obtain ⟨its, _, ⟨o, n, ho, hc, _⟩, _⟩ := I.list (fh.seq h1)
    cases T
    · exact IsiPair.list_int ho hc (fin1 q)
    · exact IsiPair.list_bool ho hc (fin1 q)
    · exact IsiPair.list_tuple ho hc (fin1 q)
    · exact IsiPair.list_list ho hc (fin q)
    · exact IsiPair.list_str ho hc (fin1 q)
    · exact IsiPair.list_dict ho hc (fin1 q)
  | dct ks vs =>
    obtain ⟨a, ys, rfl, h1, h2, h3⟩ := rep_dct.mp rd
    cases rx
    obtain ⟨_, _, vs', _, o, es', ep, ho, hc, _⟩ := (show ObjOk X.prog X.w H s.heap a _ from I.hok a _ (fh _ _ h1))
    cases T
    · exact IsiPair.dict_int ho hc.1 (fin1 q)
    · exact IsiPair.dict_bool ho hc.1 (fin1 q)
    · exact IsiPair.dict_tuple ho hc.1 (fin1 q)
    · exact IsiPair.dict_list ho hc.1 (fin1 q)
    · exact IsiPair.dict_str ho hc.1 (fin1 q)
    · exact IsiPair.dict_dict ho hc.1 (fin q)
  | dtt ks vs =>
    obtain ⟨a, xs', ys, rfl, h1, _⟩ := rep_dtt.mp rd
    cases rx
    obtain ⟨⟨o, es', ep, ho, hc, _⟩, _, _⟩ := (show ObjOk X.prog X.w H s.heap a _ from I.hok a _ (fh _ _ h1))
    cases T
    · exact IsiPair.dict_int ho hc.1 (fin1 q)
    · exact IsiPair.dict_bool ho hc.1 (fin1 q)
    · exact IsiPair.dict_tuple ho hc.1 (fin1 q)
    · exact IsiPair.dict_list ho hc.1 (fin1 q)
    · exact IsiPair.dict_str ho hc.1 (fin1 q)
    · exact IsiPair.dict_dict ho hc.1 (fin q)
  | obj x =>
    obtain ⟨a, dx, C, rfl, h1, _, c1, c2, c3, c4, c5, c6, c7⟩ := rep_obj.mp rd
    cases rx
    obtain ⟨mA, O, _⟩ := ins_get I.hok (fh _ _ h1)
    obtain ⟨od, J, _⟩ := O.look
    cases T <;> exact PySem.W.kia_one (PySem.W.kitx_own c1 c2 c3 c4 c5 c6) I.kIn J (c7 _ (by decide)) (fun z => nomatch z) (fun tk => ⟨.bl _, H, I.tok _, rfl, q⟩)
  | exc x =>
    obtain ⟨a, C, rfl, h1, _, c1, c2⟩ := rep_exc.mp rd
    cases rx
    obtain ⟨J, _, _⟩ := (show ObjOk X.prog X.w H s.heap a _ from I.hok a _ (fh _ _ h1))
    cases T <;> exact PySem.W.kia_one (kitx_exc c1) I.kIn J (c2 _ (by decide)) (fun z => nomatch z) (fun tk => ⟨.bl _, H, I.tok _, rfl, q⟩)
def eIsi (T : Ty) (f : FE) : FE := fun ρ => (f ρ).map fun d => .bl (isiD T d)
theorem boot_isi : bootBuiltins "isinstance" = some (.builtin "isinstance") := by decide +kernel
theorem pd_isi {x : Str} {p px : Pos} (T : Ty) (hg : Gl X "isinstance") (hm : X.mg "isinstance" = none) (hgT : Gl X x) (hmT : X.mg x = none) (hvT : bootBuiltins x = some (.type T.name)) (ha : PE X e (tD X.K f))
    (hnT : x ≠ "__name__" := by decide) (hdT : (x == ("__debug__" : Str)) = false := by decide) (he2 : starEach [e, .Name x px] X.env = (false, eval e X.env) :: starEach [.Name x px] X.env := by rfl) :
    PE X (.Call (.Name "isinstance" p) [e, .Name x px] [] pos) (tD X.K (eIsi T f)) :=
  pe_imp (pe_callB (call_isi T) hg hm boot_isi (pa_cons ha (pa_cons (pe_bltn (v := .ty T.name) hgT hmT hvT rfl hnT hdT) pa_nil) he2) (by decide) (by decide) he2 rfl) fun σ H Q ⟨F0, H0, F, ρ, d, r, hf, q⟩ => by
    obtain ⟨d', h1, h2⟩ := Option.map_eq_some_iff.mp hf
    subst h2
    exact ⟨F0, H0, F, ρ, d', r, h1, fun v F' H' g' r' => ⟨v, F', d', rfl, g'.fh, r', q _ F' H' g' (rep_bl.mpr rfl)⟩⟩

/-! ### sum, all, any of a list -/
def intsD : List D → Option (List Int)
  | [] => some []
  | .int i :: r => (intsD r).map fun is => i :: is
  | _ :: _ => none
def boolsD : List D → Option (List Bool)
  | [] => some []
  | .bl i :: r => (boolsD r).map fun is => i :: is
  | _ :: _ => none
theorem intsD_some : ∀ {ds : List D} {ns : List Int}, intsD ds = some ns → ds = ns.map D.int
  | [], ns, h => by cases h; rfl
  | d :: r, ns, h => by
    cases d <;> simp only [intsD] at h <;> first | (cases h; done) | skip
    obtain ⟨is, h1, h2⟩ := Option.map_eq_some_iff.mp h
    subst h2
    rw [intsD_some h1]; rfl
omit [Lam] in
theorem intsD_map : ∀ (ns : List Int), intsD (ns.map D.int) = some ns
  | [] => rfl
  | n :: r => by simp only [List.map_cons, intsD, intsD_map r, Option.map_some]
theorem boolsD_some : ∀ {ds : List D} {bs : List Bool}, boolsD ds = some bs → ds = bs.map D.bl
  | [], ns, h => by cases h; rfl
  | d :: r, ns, h => by
    cases d <;> simp only [boolsD] at h <;> first | (cases h; done) | skip
    obtain ⟨is, h1, h2⟩ := Option.map_eq_some_iff.mp h
    subst h2
    rw [boolsD_some h1]; rfl
omit [Lam] in
theorem boolsD_map : ∀ (ns : List Bool), boolsD (ns.map D.bl) = some ns
  | [] => rfl
  | n :: r => by simp only [List.map_cons, boolsD, boolsD_map r, Option.map_some]
theorem RepL.bools {K : Frag} {H : Hp} : ∀ {bs : List Bool} {xs : List V}, RepL K H (bs.map D.bl) xs → xs = bs.map V.bl
  | [], xs, h => h.nil_inv
  | b :: bs, xs, h => by
    obtain ⟨x, r, rfl, h1, h2⟩ := h.cons_inv
    rw [rep_bl.mp h1, RepL.bools h2]; rfl
/-- one argument, a list -/
def o1L (z : List D → Option D) : List D → Option D
  | [.lst ds] => z ds
  | _ => none
theorem o1L_some {z : List D → Option D} {es : List D} {d : D} (h : o1L z es = some d) : ∃ ds, es = [.lst ds] ∧ z ds = some d := by
  unfold o1L at h
  split at h
  · exact ⟨_, rfl, h⟩
  · cases h
theorem rep1 {K : Frag} {F : Hp} {d : D} {xs : List V} (h : RepL K F [d] xs) : ∃ x, xs = [x] ∧ Rep K F d x := by
  obtain ⟨x, r, rfl, h1, h2⟩ := h.cons_inv
  cases h2.nil_inv
  exact ⟨x, rfl, h1⟩
abbrev oSum : List D → Option D := o1L fun ds => (intsD ds).map fun ns => .int ns.sum
abbrev oAll : List D → Option D := o1L fun ds => (boolsD ds).map fun bs => .bl (bs.all id)
abbrev oAny : List D → Option D := o1L fun ds => (boolsD ds).map fun bs => .bl (bs.any id)
theorem cd_sum (hc : X.calm = true) : CallR X (.builtin "sum") (rC X.K oSum) := by
  intro pins s σ H xs us Q I r h
  obtain ⟨F, ds, d, fh, rl, ho, q⟩ := h
  obtain ⟨es, rfl, h1⟩ := o1L_some ho
  obtain ⟨ns, h2, h3⟩ := Option.map_eq_some_iff.mp h1
  subst h3
  cases intsD_some h2
  obtain ⟨x, rfl, rx⟩ := rep1 rl
  obtain ⟨u, rfl, ru⟩ := r.one
  obtain ⟨a, ys, rfl, k1, k2⟩ := rep_lst.mp rx
  cases ru
  cases RepL.ints.mp k2
  obtain ⟨its, rv, pl, _⟩ := I.list (fh.seq k1)
  have hi := intsAre_of rv
  obtain ⟨zs, hz⟩ := hi.allInts.items
  have hl : s.heap.IsList a (intItems zs) := hz ▸ pl.isList
  refine sum_intListG (I.ok.hd hc) hl fun h' tk t' hk => ?_
  have e1 : ns = zs.toList.map (·.1) := by
    rw [← nums_intItems, ← hz]
    exact (show numsOf its.toArray.toList = ns from hi.numsOf).symm
  have e2 : preSum (numAt zs) zs.size = ns.sum := by
    rw [preSum_eq, List.take_of_length_le (by simp), e1]
  rw [e2]
  exact ⟨.int ns.sum, H, I.kept hk, ⟨_, rfl⟩, q _ F H (.refl fh) (rep_int.mpr rfl)⟩
theorem vals_bools : ∀ {bs : List Bool} {us : List Value}, Vals (bs.map V.bl) us → us = bs.map Value.bool
  | [], us, h => by cases h; rfl
  | b :: bs, us, h => by
    rw [List.map_cons] at h
    cases h with
    | cons r t =>
      cases (show _ = Value.bool b from r)
      rw [vals_bools t]; rfl
theorem boolsAre : ∀ bs : List Bool, LSm.BoolsAre (bs.map Value.bool) bs
  | [] => .nil
  | b :: r => .cons b (boolsAre r)
theorem cd_all (hc : X.calm = true) : CallR X (.builtin "all") (rC X.K oAll) := by
  intro pins s σ H xs us Q I r h
  obtain ⟨F, ds, d, fh, rl, ho, q⟩ := h
  obtain ⟨es, rfl, h1⟩ := o1L_some ho
  obtain ⟨bs, h2, h3⟩ := Option.map_eq_some_iff.mp h1
  subst h3
  cases boolsD_some h2
  obtain ⟨x, rfl, rx⟩ := rep1 rl
  obtain ⟨u, rfl, ru⟩ := r.one
  obtain ⟨a, ys, rfl, k1, k2⟩ := rep_lst.mp rx
  cases ru
  cases k2.bools
  obtain ⟨its, rv, pl, _⟩ := I.list (fh.seq k1)
  cases vals_bools rv
  have hlt : a < s.heap.objs.size := by obtain ⟨_, e, _⟩ := pl.isList; exact Heap.lt_size e
  refine call_all_walk (wpAny_pyIter_list pl.isList ?_)
  refine ⟨s.heap.objs.size, [s.heap.objs.size, a], [s.heap.objs.size], (bs.map Value.bool).toArray.size, _, _, fun i => (bs[i]?).getD true, rfl, Walks.list (A := X.A.in1) (I.ok.hd hc) _ a (Nat.ne_of_lt hlt) (bs.map Value.bool).toArray,
    ⟨⟨_, Heap.get?_push_size _ rfl, rfl, rfl⟩, pl.isList.push _⟩, fun i v s' Q' E' hP hQ => ?_, fun h' tk hk => ?_⟩
  · have hP' : (bs.map Value.bool)[i]? = some v := by simpa using hP
    rw [List.getElem?_map] at hP'
    cases z : bs[i]? with
    | none => rw [z] at hP'; cases hP'
    | some b =>
      rw [z] at hP'
      cases hP'
      simp only [z, Option.getD_some] at hQ
      exact wpAny_truthy_bool hQ
  · have e : ((List.range (bs.map Value.bool).toArray.size).all fun i => (bs[i]?).getD true) = bs.all id := by
      rw [List.size_toArray, List.length_map]; exact LSm.range_all bs
    rw [e]
    exact ⟨.bl _, H, I.kept (LSm.kept_iter hk), rfl, q _ F H (.refl fh) (rep_bl.mpr rfl)⟩
theorem cd_any (hc : X.calm = true) : CallR X (.builtin "any") (rC X.K oAny) := by
  intro pins s σ H xs us Q I r h
  obtain ⟨F, ds, d, fh, rl, ho, q⟩ := h
  obtain ⟨es, rfl, h1⟩ := o1L_some ho
  obtain ⟨bs, h2, h3⟩ := Option.map_eq_some_iff.mp h1
  subst h3
  cases boolsD_some h2
  obtain ⟨x, rfl, rx⟩ := rep1 rl
  obtain ⟨u, rfl, ru⟩ := r.one
  obtain ⟨a, ys, rfl, k1, k2⟩ := rep_lst.mp rx
  cases ru
  cases k2.bools
  obtain ⟨its, rv, pl, _⟩ := I.list (fh.seq k1)
  cases vals_bools rv
  have hlt : a < s.heap.objs.size := by obtain ⟨_, e, _⟩ := pl.isList; exact Heap.lt_size e
  refine call_any_walk (wpAny_pyIter_list pl.isList ?_)
  refine ⟨s.heap.objs.size, [s.heap.objs.size, a], [s.heap.objs.size], (bs.map Value.bool).toArray.size, _, _, fun i => (bs[i]?).getD false, rfl, Walks.list (A := X.A.in1) (I.ok.hd hc) _ a (Nat.ne_of_lt hlt) (bs.map Value.bool).toArray,
    ⟨⟨_, Heap.get?_push_size _ rfl, rfl, rfl⟩, pl.isList.push _⟩, fun i v s' Q' E' hP hQ => ?_, fun h' tk hk => ?_⟩
  · have hP' : (bs.map Value.bool)[i]? = some v := by simpa using hP
    rw [List.getElem?_map] at hP'
    cases z : bs[i]? with
    | none => rw [z] at hP'; cases hP'
    | some b =>
      rw [z] at hP'
      cases hP'
      simp only [z, Option.getD_some] at hQ
      exact wpAny_truthy_bool hQ
  · have e : ((List.range (bs.map Value.bool).toArray.size).any fun i => (bs[i]?).getD false) = bs.any id := by
      rw [List.size_toArray, List.length_map]; exact LSm.range_any bs
    rw [e]
    exact ⟨.bl _, H, I.kept (LSm.kept_iter hk), rfl, q _ F H (.refl fh) (rep_bl.mpr rfl)⟩
theorem boot_sum : bootBuiltins "sum" = some (.builtin "sum") := by decide +kernel
theorem boot_all : bootBuiltins "all" = some (.builtin "all") := by decide +kernel
theorem boot_any : bootBuiltins "any" = some (.builtin "any") := by decide +kernel
theorem boot_min : bootBuiltins "min" = some (.builtin "min") := by decide +kernel
theorem boot_max : bootBuiltins "max" = some (.builtin "max") := by decide +kernel
theorem boot_len' : bootBuiltins "len" = some (.builtin "len") := by decide +kernel
theorem boot_tuple : bootBuiltins "tuple" = some (.type "tuple") := by decide +kernel
theorem boot_list : bootBuiltins "list" = some (.type "list") := by decide +kernel
theorem boot_int : bootBuiltins "int" = some (.type "int") := by decide +kernel
theorem boot_bool : bootBuiltins "bool" = some (.type "bool") := by decide +kernel
theorem boot_str : bootBuiltins "str" = some (.type "str") := by decide +kernel
theorem boot_dict : bootBuiltins "dict" = some (.type "dict") := by decide +kernel

/-! ### min, max, len, tuple, list, int -/
def o2I (z : Int → Int → Int) : List D → Option D
  | [.int i, .int j] => some (.int (z i j))
  | _ => none
theorem o2I_some {z : Int → Int → Int} {es : List D} {d : D} (h : o2I z es = some d) : ∃ i j, es = [.int i, .int j] ∧ d = .int (z i j) := by
  unfold o2I at h
  split at h
  · cases h; exact ⟨_, _, rfl, rfl⟩
  · cases h
theorem rep2I {K : Frag} {F : Hp} {i j : Int} {xs : List V} (h : RepL K F [.int i, .int j] xs) : xs = [.int i, .int j] := RepL.ints (ns := [i, j]).mp h
abbrev oMin := o2I fun i j => if j < i then j else i
abbrev oMax := o2I fun i j => if j > i then j else i
theorem cd_min (hc : X.calm = true) : CallR X (.builtin "min") (rC X.K oMin) := callR_imp (call_min2 hc) fun xs H Q ⟨F, ds, d, fh, rl, ho, q⟩ => by
  obtain ⟨i, j, rfl, rfl⟩ := o2I_some ho
  exact ⟨i, j, rep2I rl, q _ F H (.refl fh) (rep_int.mpr rfl)⟩
theorem cd_max (hc : X.calm = true) : CallR X (.builtin "max") (rC X.K oMax) := callR_imp (call_max2 hc) fun xs H Q ⟨F, ds, d, fh, rl, ho, q⟩ => by
  obtain ⟨i, j, rfl, rfl⟩ := o2I_some ho
  exact ⟨i, j, rep2I rl, q _ F H (.refl fh) (rep_int.mpr rfl)⟩
def oLen : List D → Option D
  | [.tup ds] => some (.int ds.length)
  | [.lst ds] => some (.int ds.length)
  | [.str x] => if x.length ≤ lim then some (.int x.length) else none
  | _ => none
theorem cd_len : CallR X (.builtin "len") (rC X.K oLen) := callR_imp call_len fun xs H Q ⟨F, ds, d, fh, rl, ho, q⟩ => by
  unfold oLen at ho
  split at ho
  · cases ho
    obtain ⟨x, rfl, rx⟩ := rep1 rl
    obtain ⟨a, ys, rfl, k1, k2⟩ := rep_tup.mp rx
    exact ⟨_, ys.length, rfl, .inr ⟨ys, same_seqT fh k1, rfl⟩, by rw [← k2.length]; exact q _ F H (.refl fh) (rep_int.mpr rfl)⟩
  · cases ho
    obtain ⟨x, rfl, rx⟩ := rep1 rl
    obtain ⟨a, ys, rfl, k1, k2⟩ := rep_lst.mp rx
    exact ⟨_, ys.length, rfl, .inl ⟨ys, fh.seq k1, rfl⟩, by rw [← k2.length]; exact q _ F H (.refl fh) (rep_int.mpr rfl)⟩
  · split at ho
    · rename_i z
      cases ho
      obtain ⟨x, rfl, rx⟩ := rep1 rl
      cases rep_str.mp rx
      exact ⟨_, _, rfl, ⟨lim_size z, rfl⟩, q _ F H (.refl fh) (rep_int.mpr rfl)⟩
    · cases ho
  · cases ho
def oTuple : List D → Option D
  | [.tup ds] => some (.tup ds)
  | [.lst ds] => some (.tup ds)
  | _ => none
theorem cd_tuple : CallR X (.type "tuple") (rC X.K oTuple) := callR_imp call_tuple_of fun xs H Q ⟨F, ds, d, fh, rl, ho, q⟩ => by
  unfold oTuple at ho
  split at ho
  · cases ho
    obtain ⟨x, rfl, rx⟩ := rep1 rl
    obtain ⟨a, ys, rfl, k1, k2⟩ := rep_tup.mp rx
    exact ⟨a, ys, rfl, .inr ⟨same_seqT fh k1, q _ F H (.refl fh) rx⟩⟩
  · cases ho
    obtain ⟨x, rfl, rx⟩ := rep1 rl
    obtain ⟨a, ys, rfl, k1, k2⟩ := rep_lst.mp rx
    refine ⟨a, ys, rfl, .inl ⟨fh.seq k1, fun l hl => ?_⟩⟩
    have gn : Grow F H (upd F l (.tup ys)) (upd H l (.tup ys)) := Grow.new fh hl
    exact q _ _ _ gn (rep_tup.mpr ⟨l, ys, rfl, SqT.of upd_same, k2.mono gn.ff⟩)
  · cases ho
def oInt : List D → Option D
  | [.int i] => some (.int i)
  | [.bl b] => some (.int (if b then 1 else 0))
  | _ => none
theorem cd_int : CallR X (.type "int") (rC X.K oInt) := callR_imp call_int1 fun xs H Q ⟨F, ds, d, fh, rl, ho, q⟩ => by
  unfold oInt at ho
  split at ho
  · cases ho
    obtain ⟨x, rfl, rx⟩ := rep1 rl
    exact .inl ⟨_, by rw [rep_int.mp rx], q _ F H (.refl fh) (rep_int.mpr rfl)⟩
  · cases ho
    obtain ⟨x, rfl, rx⟩ := rep1 rl
    exact .inr ⟨_, by rw [rep_bl.mp rx], q _ F H (.refl fh) (rep_int.mpr rfl)⟩
  · cases ho
/-! ### calls that give a new list -/
def rCL (K : Frag) (op : List D → Option (List D)) : List V → Hp → VK → Prop := fun xs H Q => ∃ F ds es, Same F H ∧ RepL K F ds xs ∧ op ds = some es ∧ ∀ a ys F' H', Grow F H F' H' → F' a = none → H a = none → H' a = some (.lst ys) → RepL K F' es ys → Q (.ref a) H'
def lCall (op : List D → Option (List D)) (fa : FA) : FA := fun ρ => (fa ρ).bind op
theorem args_CL {K : Frag} {op : List D → Option (List D)} {σ : St} {H : Hp} {Q : VK} (h : tL K (lCall op fa) σ H Q) : tDA K fa σ H fun vs H1 => rCL K op vs H1 Q := by
  obtain ⟨F0, H0, F, ρ, d, r, hf, q⟩ := h
  obtain ⟨ds, h1, h2⟩ := Option.bind_eq_some_iff.mp hf
  exact ⟨F0, H0, F, ρ, ds, r, h1, fun vs F1 H1 g1 r1 => ⟨F1, ds, d, g1.fh, r1, h2, fun a ys F2 H2 g2 k1 k2 k3 k4 => q a ys F2 H2 (g1.trans g2) k1 (g1.hh.free k2) k3 k4⟩⟩
theorem ld_callB {x : Str} {p : Pos} {id : String} {op : List D → Option (List D)} (hc : CallR X (.builtin id) (rCL X.K op)) (hg : Gl X x) (hm : X.mg x = none) (hv : bootBuiltins x = some (.builtin id)) (ha : PA X (e :: es) (tDA X.K fa))
    (hn : x ≠ "__name__" := by decide) (hdb : (x == ("__debug__" : Str)) = false := by decide)
    (he : starEach (e :: es) X.env = (false, eval e X.env) :: starEach es X.env := by rfl) (hpl : (backTo pos (starEach es X.env)).any (·.1) = false := by rfl) : PE X (.Call (.Name x p) (e :: es) [] pos) (tL X.K (lCall op fa)) :=
  pe_imp (pe_callB hc hg hm hv ha hn hdb he hpl) fun σ H Q h => args_CL h
theorem ld_callTy {x : Str} {p : Pos} {T : String} {op : List D → Option (List D)} (hc : CallR X (.type T) (rCL X.K op)) (hg : Gl X x) (hm : X.mg x = none) (hv : bootBuiltins x = some (.type T)) (ha : PA X (e :: es) (tDA X.K fa))
    (hn : x ≠ "__name__" := by decide) (hdb : (x == ("__debug__" : Str)) = false := by decide)
    (he : starEach (e :: es) X.env = (false, eval e X.env) :: starEach es X.env := by rfl) (hpl : (backTo pos (starEach es X.env)).any (·.1) = false := by rfl) : PE X (.Call (.Name x p) (e :: es) [] pos) (tL X.K (lCall op fa)) :=
  pe_imp (pe_callTy hc hg hm hv ha hn hdb he hpl) fun σ H Q h => args_CL h
def oList : List D → Option (List D)
  | [.tup ds] => some ds
  | [.lst ds] => some ds
  | _ => none
theorem cd_list : CallR X (.type "list") (rCL X.K oList) := callR_imp call_list_of fun xs H Q ⟨F, ds, d, fh, rl, ho, q⟩ => by
  unfold oList at ho
  split at ho
  · cases ho
    obtain ⟨x, rfl, rx⟩ := rep1 rl
    obtain ⟨a, ys, rfl, k1, k2⟩ := rep_tup.mp rx
    exact ⟨a, ys, rfl, .inr (same_seqT fh k1), fun l hl => q l ys F _ (Grow.own fh hl) (fh.free hl) hl upd_same k2⟩
  · cases ho
    obtain ⟨x, rfl, rx⟩ := rep1 rl
    obtain ⟨a, ys, rfl, k1, k2⟩ := rep_lst.mp rx
    exact ⟨a, ys, rfl, .inl (fh.seq k1), fun l hl => q l ys F _ (Grow.own fh hl) (fh.free hl) hl upd_same k2⟩
  · cases ho

/-! ### an index -/
theorem atI_rep {K : Frag} {H : Hp} {ds : List D} {xs : List V} {i : Int} {d : D} (h : RepL K H ds xs) (e : atI ds i = some d) : ∃ x, atI xs i = some x ∧ Rep K H d x := by
  unfold atI at e ⊢
  rw [← h.length]
  cases q : ixN ds.length i with
  | none => rw [q] at e; cases e
  | some j =>
    rw [q] at e
    exact h.get e
def oIx : D → D → Option D
  | .tup ds, .int i => atI ds i
  | .lst ds, .int i => atI ds i
  | _, _ => none
theorem pd_ix {a b : Expr} (ha : PE X a (tD X.K f)) (hb : PE X b (tD X.K g)) (hs : PlainIx b := by intro _ _; rfl) : PE X (.Subscript a b pos) (tD X.K (eOp oIx f g)) := pe_imp (pe_ix ix_seq ha hb hs) fun σ H Q h => by
  have h' := two h
  obtain ⟨F0, H0, F, ρ, d, r, hf, q⟩ := h'
  refine ⟨F0, H0, F, ρ, d, r, hf, fun v F1 H1 g1 r1 => ?_⟩
  obtain ⟨F0', H0', F', ρ', d', r', hf', q'⟩ := q v F1 H1 g1 r1
  refine ⟨F0', H0', F', ρ', d', r', hf', fun v2 F2 H2 g2 r2 => ?_⟩
  obtain ⟨F3, d1, d2, d3, fh, k1, k2, k3, k4⟩ := q' v2 F2 H2 g2 r2
  unfold oIx at k3
  split at k3
  · obtain ⟨p, ys, rfl, z1, z2⟩ := rep_tup.mp k1
    obtain ⟨y, z3, z4⟩ := atI_rep z2 k3
    exact .inr (.inl ⟨p, ys, _, y, rfl, rep_int.mp k2, same_seqT fh z1, z3, k4 y F3 H2 (.refl fh) z4⟩)
  · obtain ⟨p, ys, rfl, z1, z2⟩ := rep_lst.mp k1
    obtain ⟨y, z3, z4⟩ := atI_rep z2 k3
    exact .inl ⟨p, ys, _, y, rfl, rep_int.mp k2, fh.seq z1, z3, k4 y F3 H2 (.refl fh) z4⟩
  · cases k3
/-! ### x.bit_length() -/
def oBits : D → Option D
  | .int i => some (.int (Builtin.Int.intBits i))
  | _ => none
def eUn (o : D → Option D) (f : FE) : FE := fun ρ => (f ρ).bind o
theorem mt_bits : MtR X "int.bit_length" (fun x xs H Q => ∃ i, x = .int i ∧ xs = [] ∧ Q (.int (Builtin.Int.intBits i)) H) := by
  intro pins s σ H x xs v us Q I rx rv h
  obtain ⟨i, rfl, rfl, q⟩ := h
  obtain ⟨t, rfl⟩ := rx
  cases rv
  exact call_int_bit_length ⟨.int _, H, I.tok _, ⟨_, rfl⟩, q⟩
theorem pd_bits {o : Expr} {apos cpos : Pos} (ho : PE X o (tD X.K f)) (hbase : attributeBase o "bit_length" X.env (eval o X.env) = eval o X.env := by rfl) (hline : (apos.endLine == cpos.line) = true := by rfl) :
    PE X (.Call (.Attribute o "bit_length" apos) [] [] cpos) (tD X.K (eUn oBits f)) := pe_imp (pe_bm0 PySem.F.plainAttrs_int PySem.F.slot_int_bit_length PySem.F.type_int_bit_length mt_bits ho hbase hline) fun σ H Q ⟨F0, H0, F, ρ, d, r, hf, q⟩ => by
  obtain ⟨d', h1, h2⟩ := Option.bind_eq_some_iff.mp hf
  refine ⟨F0, H0, F, ρ, d', r, h1, fun v F1 H1 g1 r1 => ?_⟩
  cases d' <;> simp only [oBits] at h2 <;> first | (cases h2; done) | skip
  cases h2
  cases rep_int.mp r1
  exact ⟨rfl, _, rfl, rfl, q _ F1 H1 g1 (rep_int.mpr rfl)⟩
end
end DL

set_option maxRecDepth 100000
set_option maxHeartbeats 4000000
namespace DL
open PySem PySem.Spec PyProof.Rows L2
variable [Lam]
/-! ### slices -/
section
variable {prog : Program} {w : World} {A : Around} {E : Value → Shared → Prop} {s : Shared}
/-- t[:], t[0:len], .. : the tuple itself -/
theorem getItem_whole {t sl : Addr} {items : Array Value} {vl vu : Value} {lo hi : Option Int} {Q : Value → Shared → Prop} (ht : IsTup s.heap t items) (hs : s.heap.IsSliceOf sl vl vu .none)
    (pl : IsPart vl lo) (pu : IsPart vu hi) (w1 : HT.sIx items.size 0 lo = 0) (w2 : HT.sIx items.size items.size hi = items.size) (h : Q (.ref t) s) :
    wpAny (model prog w) A (getItem (.ref t) (.ref sl)) Q E s := by
  obtain ⟨os, hos, hcs, hds⟩ := id hs
  have hTs : s.TypeIs (.ref sl) "slice" := ⟨os, hos, hcs⟩
  unfold getItem
  try with_reducible refine wpAny_holding ?_
  first | refine wpAny_bind (wpAny_pure ?_) | skip
  refine wpAny_bind (wpAny_sequenceKey ht.typeIs (by decide) (wpAny_bind (wpAny_callSpecial?_slot (name := Str.ofString "__getitem__") ht.typeIs PyProof.Rows.slot_tuple_getitem
    (wpAny_call_entry PyProof.Rows.slot_tuple_getitem ht.typeIs entry_tuple_getitem ?_ (args_tuple_getitem _ _)))))
  show wpAny _ _ (Builtin.Tuple.tupleItemsOf (.ref t) >>= _) _ _ s
  refine wpAny_bind (tupleItemsOf_ ht (wpAny_bind (wpAny_typeOf hTs ?_)))
  rw [if_pos (by decide)]
  refine wpAny_bind (HT.sliceApplied_gen hs pl pu ?_)
  rw [w1, w2]
  show wpAny _ _ (if (((0 : Nat) : Int) == 0 && (1 : Int) == 1 && (items.size - 0) == items.size) = true then _ else _) _ _ s
  rw [if_pos (by simp)]
  refine wpAny_bind ?_
  unfold Builtin.Tuple.tupleIsExact
  refine wpAny_bind (wpAny_typeOf ht.typeIs (wpAny_pure ?_))
  first
    | rw [if_pos (by decide)]
    | skip
  first
    | exact wpAny_bind (wpAny_rule (wpAny_bind (wpAny_pure (wpAny_pure ⟨_, rfl, wpAny_pure h⟩))))
    | exact wpAny_bind (wpAny_rule (wpAny_pure ⟨_, rfl, wpAny_pure h⟩))
    | exact wpAny_bind (wpAny_bind (wpAny_rule (wpAny_pure (wpAny_pure ⟨_, rfl, wpAny_pure h⟩))))
end
section
variable {X : Cx} {e : Expr} {es : List Expr} {pos : Pos} {f g : FE} {fa : FA}
def rSlW (K : Frag) : V → Option Int → Option Int → Hp → VK → Prop := fun x lo hi H Q => ∃ a xs, x = .ref a ∧ SqT K H a xs ∧ HT.sIx xs.length 0 lo = 0 ∧ HT.sIx xs.length xs.length hi = xs.length ∧ Q (.ref a) H
theorem sl_whole : SlR X (rSlW X.K) := by
  intro pins s σ H x v vl vu lo hi sl Q I rx hs pl pu h
  obtain ⟨a, xs, rfl, hx, w1, w2, q⟩ := h
  cases rx
  obtain ⟨its, r, ht, hz⟩ := I.tuple hx
  have hlen : its.toArray.size = xs.length := by rw [List.size_toArray]; exact r.length.symm
  exact ⟨"tuple", _, PyProof.Rows.slot_tuple_getitem.lookup, ht.typeIs, getItem_whole ht hs pl pu (by rw [hlen]; exact w1) (by rw [hlen]; exact w2) ⟨.ref a, H, I, rfl, q⟩⟩
def cutD (ds : List D) (lo hi : Option Int) : List D := (ds.drop (HT.sIx ds.length 0 lo)).take (HT.sIx ds.length ds.length hi - HT.sIx ds.length 0 lo)
def oSl : D → Option Int → Option Int → Option D
  | .tup ds, lo, hi => some (.tup (cutD ds lo hi))
  | .lst ds, lo, hi => some (.lst (cutD ds lo hi))
  | _, _, _ => none
abbrev FO := Rho → Option (Option Int)
def oNo : FO := fun _ => some none
def oAt (f : FE) : FO := fun ρ => (f ρ).bind fun d => match d with
  | .int i => some (some i)
  | _ => none
def tDO (K : Frag) (f : FO) : TO := fun σ H Q => ∃ F0 H0 F ρ i, RS K F0 H0 F H σ ρ ∧ f ρ = some i ∧ ∀ F' H', Grow F H F' H' → Q i H'
theorem po_imp {o : Option Expr} {t t' : TO} (h : PO X o t) (i : ∀ σ H Q, t' σ H Q → t σ H Q) : PO X o t' := fun pins s σ H Q I q => h pins s σ H Q I (i σ H Q q)
theorem pod_none : PO X none (tDO X.K oNo) := po_imp po_none fun σ H Q ⟨F0, H0, F, ρ, i, r, hf, q⟩ => by cases hf; exact q F H (.refl r.fh)
theorem pod_some (h : PE X e (tD X.K f)) : PO X (some e) (tDO X.K (oAt f)) := po_imp (po_some h) fun σ H Q ⟨F0, H0, F, ρ, i, r, hf, q⟩ => by
  obtain ⟨d, h1, h2⟩ := Option.bind_eq_some_iff.mp hf
  cases d <;> simp only at h2 <;> first | (cases h2; done) | skip
  cases h2
  exact ⟨F0, H0, F, ρ, _, r, h1, fun v F' H' g' r' => ⟨_, rep_int.mp r', q F' H' g'⟩⟩
def eSl (f : FE) (lo hi : FO) : FE := fun ρ => (f ρ).bind fun d => (lo ρ).bind fun l => (hi ρ).bind fun h => oSl d l h
theorem pd_slice {a : Expr} {lo hi : Option Expr} {fl fh : FO} {p2 : Pos} (ha : PE X a (tD X.K f)) (hl : PO X lo (tDO X.K fl)) (hh : PO X hi (tDO X.K fh)) : PE X (.Subscript a (.Slice lo hi none p2) pos) (tD X.K (eSl f fl fh)) :=
  pe_imp (pe_slice (sl_list.or (sl_tup.or sl_whole)) ha hl hh) fun σ H Q ⟨F0, H0, F, ρ, d, r, hf, q⟩ => by
    obtain ⟨x, h1, hf⟩ := Option.bind_eq_some_iff.mp hf
    obtain ⟨l, h2, hf⟩ := Option.bind_eq_some_iff.mp hf
    obtain ⟨u, h3, h4⟩ := Option.bind_eq_some_iff.mp hf
    refine ⟨F0, H0, F, ρ, x, r, h1, fun v F1 H1 g1 r1 => ⟨F0, H0, F1, ρ, l, r.grow g1, h2, fun F2 H2 g2 => ⟨F0, H0, F2, ρ, u, (r.grow g1).grow g2, h3, fun F3 H3 g3 => ?_⟩⟩⟩
    have gg := g1.trans (g2.trans g3)
    have r3 : Rep X.K F3 x v := r1.mono (g2.ff.trans g3.ff)
    cases x with
    | tup ds =>
      cases h4
      obtain ⟨p, xs, rfl, k1, k2⟩ := rep_tup.mp r3
      have hlen := k2.length
      by_cases wh : HT.sIx xs.length 0 l = 0 ∧ HT.sIx xs.length xs.length u = xs.length
      · refine .inr (.inr ⟨p, xs, rfl, same_seqT g3.fh k1, wh.1, wh.2, q _ F3 H3 gg ?_⟩)
        have e : cutD ds l u = ds := by
          unfold cutD
          rw [hlen, wh.1, wh.2, List.drop_zero, Nat.sub_zero, ← hlen, List.take_length]
        rw [e]; exact r3
      · refine .inr (.inl ⟨p, xs, rfl, same_seqT g3.fh k1, wh, fun p' hp => ?_⟩)
        have gn : Grow F3 H3 (upd F3 p' (.tup (cutV xs l u))) (upd H3 p' (.tup (cutV xs l u))) := Grow.new g3.fh hp
        refine q _ _ _ (gg.trans gn) (rep_tup.mpr ⟨p', _, rfl, SqT.of upd_same, ?_⟩)
        unfold cutD cutV
        rw [hlen]
        exact ((k2.mono gn.ff).drop _).take _
    | lst ds =>
      cases h4
      obtain ⟨p, xs, rfl, k1, k2⟩ := rep_lst.mp r3
      have hlen := k2.length
      refine .inl ⟨p, xs, rfl, g3.fh.seq k1, fun p' hp => ?_⟩
      have gn : Grow F3 H3 (upd F3 p' (.lst (cutV xs l u))) (upd H3 p' (.lst (cutV xs l u))) := Grow.new g3.fh hp
      refine q _ _ _ (gg.trans gn) (rep_lst.mpr ⟨p', _, rfl, SqL.of upd_same, ?_⟩)
      unfold cutD cutV
      rw [hlen]
      exact ((k2.mono gn.ff).drop _).take _
    | _ => cases h4

/-! ### a + b of tuples and lists -/
def oCat : D → D → Option D
  | .tup xs, .tup ys => if xs.length + ys.length ≤ lim then some (.tup (xs ++ ys)) else none
  | .lst xs, .lst ys => if xs.length + ys.length ≤ lim then some (.lst (xs ++ ys)) else none
  | _, _ => none
theorem od_cat : OpR X (binaryOp .Add) (rD X.K oCat) := by
  intro pins s σ H x y v u Q I rx ry h
  obtain ⟨F, d1, d2, d, fh, r1, r2, ho, q⟩ := h
  unfold oCat at ho
  split at ho
  · rename_i ds es
    split at ho
    · rename_i hl
      cases ho
      obtain ⟨a, xs, rfl, k1, k2⟩ := rep_tup.mp r1
      obtain ⟨b, ys, rfl, k3, k4⟩ := rep_tup.mp r2
      by_cases hd : ds = []
      · subst hd
        cases k2.nil_inv
        cases rx
        cases ry
        obtain ⟨i1, v1, ⟨⟨c1, dd1, dt1, sl1⟩, o1, e1, n1, t1⟩, _⟩ := I.tuple (same_seqT fh k1)
        obtain ⟨i2, v2, ⟨⟨c2, dd2, dt2, sl2⟩, o2, e2, n2, t2⟩, _⟩ := I.tuple (same_seqT fh k3)
        simp only at e1 t1 e2 t2
        subst e1 t1 e2 t2
        cases v1
        exact concat_meets ⟨_, o1, rfl⟩ ⟨_, o2, rfl⟩ noFill_tuple_add seq_tuple_add PySem.F.slot_tuple_add PySem.F.entry_tuple_add (PySem.F.args_tuple_add_2 _ _)
          (tuple_addW0 a b #[] i2.toArray n1 n2 dd1 dd2 sl1 sl2 rfl) ⟨o1, o2, ⟨.ref b, H, I, rfl, q _ F H (.refl fh) (by simpa using r2)⟩⟩
      · refine op_catT pins s σ H _ _ v u Q I rx ry ⟨a, b, xs, ys, rfl, rfl, same_seqT fh k1, same_seqT fh k3, fun z => hd ?_, lim_size (by rw [← k2.length, ← k4.length]; exact hl), fun z => ?_, fun z p hp => ?_⟩
        · have := k2.length; rw [z] at this; exact List.eq_nil_of_length_eq_zero this
        · have e : es = [] := by have := k4.length; rw [z] at this; exact List.eq_nil_of_length_eq_zero this
          subst e
          rw [List.append_nil] at q
          exact q _ F H (.refl fh) r1
        · have gn : Grow F H (upd F p (.tup (xs ++ ys))) (upd H p (.tup (xs ++ ys))) := Grow.new fh hp
          exact q _ _ _ gn (rep_tup.mpr ⟨p, _, rfl, SqT.of upd_same, (k2.mono gn.ff).append (k4.mono gn.ff)⟩)
    · cases ho
  · rename_i ds es
    split at ho
    · rename_i hl
      cases ho
      obtain ⟨a, xs, rfl, k1, k2⟩ := rep_lst.mp r1
      obtain ⟨b, ys, rfl, k3, k4⟩ := rep_lst.mp r2
      cases rx
      cases ry
      obtain ⟨i1, v1, ⟨⟨c1, dd1, dt1, sl1⟩, n1, o1, e1, g1, t1⟩, _⟩ := I.list (fh.seq k1)
      obtain ⟨i2, v2, ⟨⟨c2, dd2, dt2, sl2⟩, n2, o2, e2, g2, t2⟩, _⟩ := I.list (fh.seq k3)
      simp only at e1 t1 e2 t2
      subst e1 t1 e2 t2
      have hz : xs.length + ys.length ≤ sizeLine := lim_size (by rw [← k2.length, ← k4.length]; exact hl)
      refine concat_meets ⟨_, o1, rfl⟩ ⟨_, o2, rfl⟩ noFill_list_add seq_list_add PySem.F.slot_list_add PySem.F.entry_list_add (PySem.F.args_list_add_2 _ _)
        (list_addW a b i1.toArray i2.toArray n1 n2 dd1 dd2 sl1 sl2 (by rw [List.size_toArray, List.size_toArray, ← v1.length, ← v2.length]; exact hz)) ⟨o1, o2, ?_⟩
      have ea : i1.toArray ++ i2.toArray = (i1 ++ i2).toArray := by simp
      rw [ea]
      have gn : Grow F H (upd F s.heap.objs.size (.lst (xs ++ ys))) (upd H s.heap.objs.size (.lst (xs ++ ys))) := Grow.new fh I.fresh
      exact ⟨.ref _, _, I.lnew (t' := s.toks) (v1.append v2) (by rw [List.length_append]; exact hz), rfl, q _ _ _ gn (rep_lst.mpr ⟨_, _, rfl, SqL.of upd_same, (k2.mono gn.ff).append (k4.mono gn.ff)⟩)⟩
    · cases ho
  · cases ho
abbrev oPlus : D → D → Option D := fun x y => (oAdd x y).or (oCat x y)
theorem od_plus : OpR X (binaryOp .Add) (rD X.K oPlus) := opR_or od_add od_cat

/-! ### x in a tuple or list of plain values -/
def flat (d : D) : Bool := (flD d).isSome
def eqF : D → D → Bool
  | .non, .non => true
  | .bl a, .bl b => a == b
  | .bl a, .int b => (if a then 1 else 0) == b
  | .int a, .bl b => a == (if b then 1 else 0)
  | .int a, .int b => a == b
  | .str a, .str b => a == b
  | _, _ => false
def inF (d : D) (ds : List D) : Bool := ds.any fun e => eqF e d
theorem eqF_V {K : Frag} {H : Hp} {d e : D} {x y : V} (h1 : flat d = true) (h2 : flat e = true) (r1 : Rep K H d x) (r2 : Rep K H e y) : eqV x y = eqF d e ∧ flatV x = true ∧ flatV y = true := by
  cases d <;> first | (cases h1; done) | skip
  all_goals (cases e <;> first | (cases h2; done) | skip)
  all_goals (first | (cases rep_non.mp r1) | (cases rep_bl.mp r1) | (cases rep_int.mp r1) | (cases rep_str.mp r1))
  all_goals (first | (cases rep_non.mp r2) | (cases rep_bl.mp r2) | (cases rep_int.mp r2) | (cases rep_str.mp r2))
  all_goals exact ⟨rfl, rfl, rfl⟩
theorem inF_V {K : Frag} {H : Hp} {d : D} {x : V} (h1 : flat d = true) (r1 : Rep K H d x) : ∀ {ds : List D} {xs : List V}, ds.all flat = true → RepL K H ds xs → inV x xs = inF d ds ∧ flatV x = true ∧ xs.all flatV = true
  | [], xs, _, r => by cases r.nil_inv; exact ⟨rfl, (eqF_V h1 h1 r1 r1).2.1, rfl⟩
  | e :: ds, xs, h2, r => by
    obtain ⟨y, ys, rfl, k1, k2⟩ := r.cons_inv
    rw [List.all_cons, Bool.and_eq_true] at h2
    obtain ⟨z1, z2, z3⟩ := inF_V h1 r1 h2.2 k2
    obtain ⟨w1, w2, w3⟩ := eqF_V h2.1 h1 k1 r1
    refine ⟨?_, z2, ?_⟩
    · show (eqV y x || inV x ys) = (eqF e d || inF d ds)
      rw [w1, z1]
    · rw [List.all_cons, w2, z3]; rfl
def oIn (neg : Bool) : D → D → Option D
  | d, .tup ds => if flat d && ds.all flat then some (.bl (if neg then !inF d ds else inF d ds)) else none
  | d, .lst ds => if flat d && ds.all flat then some (.bl (if neg then !inF d ds else inF d ds)) else none
  | _, _ => none
theorem oIn_r {K : Frag} {neg : Bool} {x y : V} {H : Hp} {Q : VK} (h : rD K (oIn neg) x y H Q) : rIn K neg x y H Q := by
  obtain ⟨F, d1, d2, d, fh, r1, r2, ho, q⟩ := h
  cases d2 <;> simp only [oIn] at ho <;> first | (cases ho; done) | skip
  · split at ho
    · rename_i hc
      cases ho
      rw [Bool.and_eq_true] at hc
      obtain ⟨p, xs, rfl, k1, k2⟩ := rep_tup.mp r2
      obtain ⟨z1, z2, z3⟩ := inF_V hc.1 r1 hc.2 k2
      exact ⟨p, xs, rfl, .inr (same_seqT fh k1), z2, z3, by rw [z1]; exact q _ F H (.refl fh) (rep_bl.mpr rfl)⟩
    · cases ho
  · split at ho
    · rename_i hc
      cases ho
      rw [Bool.and_eq_true] at hc
      obtain ⟨p, xs, rfl, k1, k2⟩ := rep_lst.mp r2
      obtain ⟨z1, z2, z3⟩ := inF_V hc.1 r1 hc.2 k2
      exact ⟨p, xs, rfl, .inl (fh.seq k1), z2, z3, by rw [z1]; exact q _ F H (.refl fh) (rep_bl.mpr rfl)⟩
    · cases ho
theorem od_in : OpR X (compareOp .In) (rD X.K (oIn false)) := opR_imp op_in_seq fun x y H Q h => oIn_r h
theorem od_notin : OpR X (compareOp .NotIn) (rD X.K (oIn true)) := opR_imp op_notIn_seq fun x y H Q h => oIn_r h
end
end DL

set_option maxRecDepth 100000
set_option maxHeartbeats 4000000
namespace DL
open PySem PySem.Spec PyProof.Rows L2
variable [Lam]
/-! ### == at any depth -/
mutual
def eqD : D → D → Bool
  | .tup ds, .tup es => eqL ds es
  | .lst ds, .lst es => eqL ds es
  | d, e => eqF d e
def eqL : List D → List D → Bool
  | [], [] => true
  | d :: ds, e :: es => eqD d e && eqL ds es
  | _, _ => false
end
mutual
def okE : D → D → Bool
  | .tup ds, .tup es => okEL ds es
  | .lst ds, .lst es => okEL ds es
  | d, e => flat d && flat e
def okEL : List D → List D → Bool
  | d :: ds, e :: es => okE d e && okEL ds es
  | _, _ => true
end
mutual
def depD : D → Nat
  | .tup ds => depL ds + 1
  | .lst ds => depL ds + 1
  | _ => 0
def depL : List D → Nat
  | [] => 0
  | d :: ds => max (depD d) (depL ds)
end
def eqJ (ds es : List D) (j : Nat) : Bool := match ds[j]?, es[j]? with
  | some d, some e => eqD d e
  | _, _ => true
theorem eqL_range : ∀ (ds es : List D), ((List.range (min ds.length es.length)).all (eqJ ds es) && ds.length == es.length) = eqL ds es
  | [], [] => by simp [eqL]
  | [], e :: es => by simp [eqL]
  | d :: ds, [] => by simp [eqL]
  | d :: ds, e :: es => by
    have ih := eqL_range ds es
    have e1 : min (d :: ds).length (e :: es).length = min ds.length es.length + 1 := by simp only [List.length_cons]; lia
    rw [e1, List.range_succ_eq_map, List.all_cons, List.all_map]
    have e2 : (eqJ (d :: ds) (e :: es) ∘ Nat.succ) = eqJ ds es := by funext j; simp [eqJ]
    have e3 : eqJ (d :: ds) (e :: es) 0 = eqD d e := by simp [eqJ]
    have e4 : ((d :: ds).length == (e :: es).length) = (ds.length == es.length) := by simp
    rw [e2, e3, e4, Bool.and_assoc, ih]
    simp only [eqL]
theorem eqF_flat {d e : D} (h1 : flat d = true) (h2 : flat e = true) : eqD d e = eqF d e := by
  cases d <;> first | (cases h1; done) | skip
  all_goals (cases e <;> first | (cases h2; done) | skip)
  all_goals simp only [eqD]
section
variable {X : Cx} {pins : List (Addr × Obj)} {σ : St} {F H : Hp} {s : Shared}
theorem eqAt_flat {A : Around} {d e : D} {x y : V} {u v : Value} (h1 : flat d = true) (h2 : flat e = true) (r1 : Rep X.K F d x) (r2 : Rep X.K F e y) (q1 : RelV x u) (q2 : RelV y v) : SeqAt.EqAt A s u v (eqD d e) := by
  obtain ⟨z1, z2, z3⟩ := eqF_V h1 h2 r1 r2
  rw [eqF_flat h1 h2, ← z1]
  exact eqAt_V q1 q2 z2 z3
theorem okE_flat {d e : D} (h : okE d e = true) : (∃ ds es, d = .tup ds ∧ e = .tup es ∧ okEL ds es = true) ∨ (∃ ds es, d = .lst ds ∧ e = .lst es ∧ okEL ds es = true) ∨ (flat d = true ∧ flat e = true) := by
  cases d <;> cases e <;> simp only [okE, Bool.and_eq_true] at h <;> first
    | exact .inl ⟨_, _, rfl, rfl, h⟩
    | exact .inr (.inl ⟨_, _, rfl, rfl, h⟩)
    | exact .inr (.inr h)
/-- one object, two data: they are equal -/
theorem same_eq (I : Inv X pins σ H s) (fh : Same F H) : ∀ {d e : D} {x : V}, okE d e = true → Rep X.K F d x → Rep X.K F e x → eqD d e = true := by
  suffices hh : ∀ n, (∀ d e x, sizeOf d < n → okE d e = true → Rep X.K F d x → Rep X.K F e x → eqD d e = true) from fun {d e x} => hh (sizeOf d + 1) d e x (Nat.lt_succ_self _)
  intro n
  induction n with
  | zero => intro d e x h; exact absurd h (Nat.not_lt_zero _)
  | succ n ih =>
    intro d e x hn ok r1 r2
    have seq : ∀ (ds es : List D) (xs : List V), sizeOf ds < n → okEL ds es = true → RepL X.K F ds xs → RepL X.K F es xs → eqL ds es = true := by
      intro ds
      induction ds with
      | nil =>
        intro es xs _ _ k1 k2
        cases k1.nil_inv
        cases es with
        | nil => simp only [eqL]
        | cons e es => obtain ⟨_, _, z, _⟩ := k2.cons_inv; cases z
      | cons d ds ihd =>
        intro es xs hs ho k1 k2
        obtain ⟨x, r, rfl, a1, a2⟩ := k1.cons_inv
        cases es with
        | nil => cases k2.nil_inv
        | cons e es =>
          obtain ⟨x', r', z, b1, b2⟩ := k2.cons_inv
          cases z
          simp only [okEL, Bool.and_eq_true] at ho
          have hs1 : sizeOf d < n := by simp only [List.cons.sizeOf_spec] at hs; lia
          have hs2 : sizeOf ds < n := by simp only [List.cons.sizeOf_spec] at hs; lia
          simp only [eqL, Bool.and_eq_true]
          exact ⟨ih d e x hs1 ho.1 a1 b1, ihd es r hs2 ho.2 a2 b2⟩
    rcases okE_flat ok with ⟨ds, es, rfl, rfl, ho⟩ | ⟨ds, es, rfl, rfl, ho⟩ | ⟨h1, h2⟩
    · obtain ⟨a, xs, rfl, k1, k2⟩ := rep_tup.mp r1
      obtain ⟨b, ys, z, k3, k4⟩ := rep_tup.mp r2
      cases z
      cases I.tuple_inj (same_seqT fh k1) (same_seqT fh k3)
      simp only [eqD]
      exact seq ds es xs (by simp only [D.tup.sizeOf_spec] at hn; lia) ho k2 k4
    · obtain ⟨a, xs, rfl, k1, k2⟩ := rep_lst.mp r1
      obtain ⟨b, ys, z, k3, k4⟩ := rep_lst.mp r2
      cases z
      cases I.list_inj (fh.seq k1) (fh.seq k3)
      simp only [eqD]
      exact seq ds es xs (by simp only [D.lst.sizeOf_spec] at hn; lia) ho k2 k4
    · obtain ⟨z1, _⟩ := eqF_V h1 h2 r1 r2
      rw [eqF_flat h1 h2, ← z1]
      cases d <;> first | (cases h1; done) | skip
      · cases rep_non.mp r1; rfl
      · cases rep_bl.mp r1; simp [eqV]
      · cases rep_int.mp r1; simp [eqV]
      · cases rep_str.mp r1; simp [eqV]
theorem eqAt_D (I : Inv X pins σ H s) (fh : Same F H) : ∀ {d e : D} {x y : V} {u v : Value} (A : Around), okE d e = true → A.units + depD d < cLine → Rep X.K F d x → Rep X.K F e y → RelV x u → RelV y v → SeqAt.EqAt A s u v (eqD d e) := by
  suffices hh : ∀ n, (∀ d e x y u v (A : Around), sizeOf d < n → okE d e = true → A.units + depD d < cLine → Rep X.K F d x → Rep X.K F e y → RelV x u → RelV y v → SeqAt.EqAt A s u v (eqD d e)) from
    fun {d e x y u v} A => hh (sizeOf d + 1) d e x y u v A (Nat.lt_succ_self _)
  intro n
  induction n with
  | zero => intro d e x y u v A h; exact absurd h (Nat.not_lt_zero _)
  | succ n ih =>
    intro d e x y u v A hn ok hu r1 r2 q1 q2
    have seq : ∀ (ds es : List D) (xs ys : List V) (us vs : List Value) (A : Around), sizeOf ds < n → okEL ds es = true → A.units + depL ds < cLine → RepL X.K F ds xs → RepL X.K F es ys → Vals xs us → Vals ys vs →
        ∀ j (h1 : j < us.length) (h2 : j < vs.length), SeqAt.EqAt A s us[j] vs[j] (eqJ ds es j) := by
      intro ds
      induction ds with
      | nil =>
        intro es xs ys us vs A _ _ _ k1 _ w1 _ j h1
        cases k1.nil_inv
        cases w1
        exact absurd h1 (Nat.not_lt_zero _)
      | cons d ds ihd =>
        intro es xs ys us vs A hs ho hu k1 k2 w1 w2 j h1 h2
        obtain ⟨x, r, rfl, a1, a2⟩ := k1.cons_inv
        cases w1 with
        | cons p1 p2 =>
          cases es with
          | nil => cases k2.nil_inv; cases w2; exact absurd h2 (Nat.not_lt_zero _)
          | cons e es =>
            obtain ⟨y, r', rfl, b1, b2⟩ := k2.cons_inv
            cases w2 with
            | cons p3 p4 =>
              simp only [okEL, Bool.and_eq_true] at ho
              have hs1 : sizeOf d < n := by simp only [List.cons.sizeOf_spec] at hs; lia
              have hs2 : sizeOf ds < n := by simp only [List.cons.sizeOf_spec] at hs; lia
              simp only [depL] at hu
              cases j with
              | zero =>
                have e0 : eqJ (d :: ds) (e :: es) 0 = eqD d e := by simp [eqJ]
                rw [e0]
                exact ih d e x y _ _ A hs1 ho.1 (by lia) a1 b1 p1 p3
              | succ j =>
                have e0 : eqJ (d :: ds) (e :: es) (j + 1) = eqJ ds es j := by simp [eqJ]
                rw [e0]
                exact ihd es r r' _ _ A hs2 ho.2 (by lia) a2 b2 p2 p4 j (by simpa using h1) (by simpa using h2)
    rcases okE_flat ok with ⟨ds, es, rfl, rfl, ho⟩ | ⟨ds, es, rfl, rfl, ho⟩ | ⟨h1, h2⟩
    · have rr := same_eq I fh ok r1
      obtain ⟨a, xs, rfl, k1, k2⟩ := rep_tup.mp r1
      obtain ⟨b, ys, rfl, k3, k4⟩ := rep_tup.mp r2
      cases q1
      cases q2
      by_cases hab : a = b
      · subst hab
        rw [rr r2]
        exact SeqAt.EqAt.same _
      · obtain ⟨i1, v1, t1, _⟩ := I.tuple (same_seqT fh k1)
        obtain ⟨i2, v2, t2, _⟩ := I.tuple (same_seqT fh k3)
        simp only [depD] at hu
        refine SeqAt.EqAt.of_refs hab ?_
        have hq := seq ds es xs ys i1 i2 A.in1 (by simp only [D.tup.sizeOf_spec] at hn; lia) ho (by show A.units + 1 + depL ds < cLine; lia) k2 k4 v1 v2
        have := SeqAt.RcAt.tuples (A := A) (e := eqJ ds es) (show s.heap.IsTuple a i1.toArray from t1) (show s.heap.IsTuple b i2.toArray from t2) (by lia) (fun j h1 h2 => by simpa using hq j (by simpa using h1) (by simpa using h2))
        simp only [List.size_toArray, ← v1.length, ← v2.length, ← k2.length, ← k4.length, eqL_range] at this
        simpa only [eqD] using this
    · have rr := same_eq I fh ok r1
      obtain ⟨a, xs, rfl, k1, k2⟩ := rep_lst.mp r1
      obtain ⟨b, ys, rfl, k3, k4⟩ := rep_lst.mp r2
      cases q1
      cases q2
      by_cases hab : a = b
      · subst hab
        rw [rr r2]
        exact SeqAt.EqAt.same _
      · obtain ⟨i1, v1, t1, _⟩ := I.list (fh.seq k1)
        obtain ⟨i2, v2, t2, _⟩ := I.list (fh.seq k3)
        simp only [depD] at hu
        refine SeqAt.EqAt.of_refs hab ?_
        have hq := seq ds es xs ys i1 i2 A.in1 (by simp only [D.lst.sizeOf_spec] at hn; lia) ho (by show A.units + 1 + depL ds < cLine; lia) k2 k4 v1 v2
        have hl1 : i1.length = ds.length := by rw [← v1.length, ← k2.length]
        have hl2 : i2.length = es.length := by rw [← v2.length, ← k4.length]
        simp only [eqD]
        by_cases hl : ds.length = es.length
        · have := SeqAt.RcAt.lists (A := A) (e := eqJ ds es) t1.isList t2.isList (by rw [List.size_toArray, List.size_toArray, hl1, hl2]; exact hl) (by lia) (fun j h1 h2 => by simpa using hq j (by simpa using h1) (by simpa using h2))
          have e1 : (List.range i1.toArray.size).all (eqJ ds es) = eqL ds es := by
            rw [← eqL_range, List.size_toArray, hl1, ← hl, Nat.min_self]; simp
          rw [e1] at this
          exact this
        · have e1 : eqL ds es = false := by rw [← eqL_range]; simp [hl]
          rw [e1]
          exact SeqAt.RcAt.lists_lengths t1.isList t2.isList (by rw [List.size_toArray, List.size_toArray, hl1, hl2]; simpa using hl) (by lia)
    · exact eqAt_flat h1 h2 r1 r2 q1 q2
/-- what == of two tuples, two lists gives -/
def oEqS : D → D → Option D
  | .tup ds, .tup es => if okEL ds es && decide (depL ds ≤ 60) then some (.bl (eqL ds es)) else none
  | .lst ds, .lst es => if okEL ds es && decide (depL ds ≤ 60) then some (.bl (eqL ds es)) else none
  | _, _ => none
theorem od_eqS (hu : X.A.units + 64 < cLine) : OpR X (compareOp .Eq) (rD X.K oEqS) := by
  intro pins s σ H x y v u Q I rx ry h
  obtain ⟨F, d1, d2, d, fh, r1, r2, ho, q⟩ := h
  have part : ∀ {ds es : List D} {xs ys : List V} {us vs : List Value}, okEL ds es = true → depL ds ≤ 60 → RepL X.K F ds xs → RepL X.K F es ys → Vals xs us → Vals ys vs →
      ∀ j (h1 : j < us.length) (h2 : j < vs.length), SeqAt.EqAt X.A.in1 s us[j] vs[j] (eqJ ds es j) := by
    intro ds
    induction ds with
    | nil =>
      intro es xs ys us vs _ _ k1 _ w1 _ j h1
      cases k1.nil_inv
      cases w1
      exact absurd h1 (Nat.not_lt_zero _)
    | cons d ds ihd =>
      intro es xs ys us vs ho hd k1 k2 w1 w2 j h1 h2
      obtain ⟨x, r, rfl, a1, a2⟩ := k1.cons_inv
      cases w1 with
      | cons p1 p2 =>
        cases es with
        | nil => cases k2.nil_inv; cases w2; exact absurd h2 (Nat.not_lt_zero _)
        | cons e es =>
          obtain ⟨y, r', rfl, b1, b2⟩ := k2.cons_inv
          cases w2 with
          | cons p3 p4 =>
            simp only [okEL, Bool.and_eq_true] at ho
            simp only [depL] at hd
            cases j with
            | zero =>
              have e0 : eqJ (d :: ds) (e :: es) 0 = eqD d e := by simp [eqJ]
              rw [e0]
              exact eqAt_D I fh _ ho.1 (by show X.A.units + 1 + depD d < cLine; lia) a1 b1 p1 p3
            | succ j =>
              have e0 : eqJ (d :: ds) (e :: es) (j + 1) = eqJ ds es j := by simp [eqJ]
              rw [e0]
              exact ihd ho.2 (by lia) a2 b2 p2 p4 j (by simpa using h1) (by simpa using h2)
  unfold oEqS at ho
  split at ho
  · rename_i ds es
    split at ho
    · rename_i hc
      cases ho
      rw [Bool.and_eq_true] at hc
      obtain ⟨a, xs, rfl, k1, k2⟩ := rep_tup.mp r1
      obtain ⟨b, ys, rfl, k3, k4⟩ := rep_tup.mp r2
      cases rx
      cases ry
      obtain ⟨i1, v1, t1, _⟩ := I.tuple (same_seqT fh k1)
      obtain ⟨i2, v2, t2, _⟩ := I.tuple (same_seqT fh k3)
      have hq := part hc.1 (of_decide_eq_true hc.2) k2 k4 v1 v2
      refine SeqAt.eq_tupleAt (e := eqJ ds es) (show s.heap.IsTuple a i1.toArray from t1) (show s.heap.IsTuple b i2.toArray from t2) (by lia) (fun j h1 h2 => by simpa using hq j (by simpa using h1) (by simpa using h2)) ?_
      simp only [List.size_toArray, ← v1.length, ← v2.length, ← k2.length, ← k4.length, eqL_range]
      exact ⟨.bl _, H, I, rfl, q _ F H (.refl fh) (rep_bl.mpr rfl)⟩
    · cases ho
  · rename_i ds es
    split at ho
    · rename_i hc
      cases ho
      rw [Bool.and_eq_true] at hc
      obtain ⟨a, xs, rfl, k1, k2⟩ := rep_lst.mp r1
      obtain ⟨b, ys, rfl, k3, k4⟩ := rep_lst.mp r2
      cases rx
      cases ry
      obtain ⟨i1, v1, t1, _⟩ := I.list (fh.seq k1)
      obtain ⟨i2, v2, t2, _⟩ := I.list (fh.seq k3)
      have hq := part hc.1 (of_decide_eq_true hc.2) k2 k4 v1 v2
      have hl1 : i1.length = ds.length := by rw [← v1.length, ← k2.length]
      have hl2 : i2.length = es.length := by rw [← v2.length, ← k4.length]
      by_cases hl : ds.length = es.length
      · refine SeqAt.eq_listAt (e := eqJ ds es) t1.isList t2.isList (by rw [List.size_toArray, List.size_toArray, hl1, hl2]; exact hl) (by lia) (fun j h1 h2 => by simpa using hq j (by simpa using h1) (by simpa using h2)) ?_
        have e1 : (List.range i1.toArray.size).all (eqJ ds es) = eqL ds es := by
          rw [← eqL_range, List.size_toArray, hl1, ← hl, Nat.min_self]; simp
        rw [e1]
        exact ⟨.bl _, H, I, rfl, q _ F H (.refl fh) (rep_bl.mpr rfl)⟩
      · have e1 : eqL ds es = false := by rw [← eqL_range]; simp [hl]
        rw [e1] at q
        exact SeqAt.eq_list_lengthsAt t1.isList t2.isList (by rw [List.size_toArray, List.size_toArray, hl1, hl2]; simpa using hl) (by lia) ⟨.bl _, H, I, rfl, q _ F H (.refl fh) (rep_bl.mpr rfl)⟩
    · cases ho
  · cases ho
abbrev oEq : D → D → Option D := fun x y => (oEqF x y).or (oEqS x y)
theorem od_eq (hu : X.A.units + 64 < cLine) : OpR X (compareOp .Eq) (rD X.K oEq) := opR_or od_eqF (od_eqS hu)
end
end DL

set_option maxRecDepth 100000
set_option maxHeartbeats 4000000
namespace DL
open PySem PySem.Spec PyProof.Rows L2
variable [Lam]
/-! ### zip of two tuples or lists -/
def itN : Bool → String
  | true => "list_iterator"
  | false => "tuple_iterator"
def sqN : Bool → String
  | true => "list"
  | false => "tuple"
/-- an iterator over the list (b) or tuple at l, at place k -/
def SI (b : Bool) (h : Heap) (it l : Addr) (k : Nat) : Prop := ∃ o, h.get? it = some o ∧ o.cls = .type (itN b) ∧ o.data = .fields #[.ref l, .int k 0]
def SO (b : Bool) (h : Heap) (l : Addr) (xs : Array Value) : Prop := ∃ o, h.get? l = some o ∧ o.cls = .type (sqN b) ∧ ∃ n, o.data = .seq xs n
theorem SI.ext {b : Bool} {h h' : Heap} {it l c : Addr} {k : Nat} (x : SI b h it l k) (e : Heap.ExtBut c h h') (n : it ≠ c) : SI b h' it l k := let ⟨o, ho, r⟩ := x; ⟨o, e it o n ho, r⟩
theorem SO.ext {b : Bool} {h h' : Heap} {l c : Addr} {xs : Array Value} (x : SO b h l xs) (e : Heap.ExtBut c h h') (n : l ≠ c) : SO b h' l xs := let ⟨o, ho, r⟩ := x; ⟨o, e l o n ho, r⟩
theorem SI.keep {b : Bool} {h h' : Heap} {it l : Addr} {k : Nat} (x : SI b h it l k) (e : ∀ o, h.get? it = some o → h'.get? it = some o) : SI b h' it l k := let ⟨o, ho, r⟩ := x; ⟨o, e o ho, r⟩
section
variable {prog : Program} {w : World} {A : Around} {E : Value → Shared → Prop} {s : Shared}
theorem nx_some {b : Bool} {it l : Addr} {k : Nat} {xs : Array Value} {x : Value} {Q : Value → Shared → Prop} (hi : SI b s.heap it l k) (ho : SO b s.heap l xs) (hx : xs[k]? = some x)
    (h : ∀ h', SI b h' it l (k + 1) → Heap.SameBut it s.heap h' → Q x { s with heap := h' }) : wpAny (model prog w) A (Builtin.SmallTypes.nextOf (.ref it)) Q E s := by
  cases b with
  | true => exact wpAny_nextOf_list_item hi ho hx h
  | false =>
    obtain ⟨o, e1, e2, e3⟩ := id hi
    obtain ⟨o2, f1, f2, n, f3⟩ := id ho
    have ty : s.TypeIs (.ref it) "tuple_iterator" := ⟨o, e1, e2⟩
    unfold Builtin.SmallTypes.nextOf
    refine wpAny_bind (wpAny_callSpecial?_slot (name := Str.ofString "__next__") ty F.slot_tuple_iterator_next (wpAny_call_entry F.slot_tuple_iterator_next ty F.entry_tuple_iterator_next ?_ (F.args_tuple_iterator_next_1 _)))
    show wpAny _ _ (field (.ref it) 0 >>= _) _ _ s
    refine wpAny_bind (wpAny_field e1 e3 (x := .ref l) rfl ?_)
    show wpAny _ _ (if (Value.ref l == Value.none) = true then _ else _) _ _ s
    rw [if_neg (fun z : (Value.ref l == Value.none) = true => Bool.false_ne_true z)]
    show wpAny _ _ (field (.ref it) 1 >>= _) _ _ s
    refine wpAny_bind (wpAny_field e1 e3 (x := .int k 0) rfl ?_)
    show wpAny _ _ (seqItems? (.ref l) >>= _) _ _ s
    refine wpAny_bind (wpAny_seqItems f1 f3 ?_)
    simp only [Int.toNat_natCast, hx]
    refine wpAny_bind (wpAny_setField e1 e3 (by simp) (wpAny_pure ⟨x, rfl, wpAny_pure (h _ ⟨_, Heap.get?_update_self _ e1 (Obj.isFreed_of_fields (Obj.data_mapFields e3 _)), (Obj.cls_mapFields ..).trans e2, ?_⟩ (Heap.SameBut.update ..))⟩))
    rw [Obj.data_mapFields e3]
    simp [rawInt]
theorem nx_none {b : Bool} {it l : Addr} {k : Nat} {xs : Array Value} {Q : Value → Shared → Prop} (hh : A.handled = none) (hi : SI b s.heap it l k) (ho : SO b s.heap l xs) (hx : xs[k]? = none)
    (h : ∀ h' e, Heap.ExtBut it s.heap h' → (∃ o, h'.get? e = some o ∧ o.cls = .type "StopIteration") → E (.ref e) { s with heap := h' }) : wpAny (model prog w) A (Builtin.SmallTypes.nextOf (.ref it)) Q E s := by
  cases b with
  | true => exact wpAny_nextOf_list_end hh hi ho hx h
  | false =>
    obtain ⟨o, e1, e2, e3⟩ := id hi
    obtain ⟨o2, f1, f2, n, f3⟩ := id ho
    have ty : s.TypeIs (.ref it) "tuple_iterator" := ⟨o, e1, e2⟩
    unfold Builtin.SmallTypes.nextOf
    refine wpAny_bind (wpAny_callSpecial?_slot (name := Str.ofString "__next__") ty F.slot_tuple_iterator_next (wpAny_call_entry F.slot_tuple_iterator_next ty F.entry_tuple_iterator_next ?_ (F.args_tuple_iterator_next_1 _)))
    show wpAny _ _ (field (.ref it) 0 >>= _) _ _ s
    refine wpAny_bind (wpAny_field e1 e3 (x := .ref l) rfl ?_)
    show wpAny _ _ (if (Value.ref l == Value.none) = true then _ else _) _ _ s
    rw [if_neg (fun z : (Value.ref l == Value.none) = true => Bool.false_ne_true z)]
    show wpAny _ _ (field (.ref it) 1 >>= _) _ _ s
    refine wpAny_bind (wpAny_field e1 e3 (x := .int k 0) rfl ?_)
    show wpAny _ _ (seqItems? (.ref l) >>= _) _ _ s
    refine wpAny_bind (wpAny_seqItems f1 f3 ?_)
    simp only [Int.toNat_natCast, hx]
    refine wpAny_bind (wpAny_rule (wpAny_bind (wpAny_setField e1 e3 (by simp) ?_)))
    show wpAny _ _ (newExc (.type "StopIteration") [] >>= _) _ _ _
    refine wpAny_bind ?_
    simp only [newExc, newTuple]
    refine wpAny_bind (wpAny_newObj_type (wpAny_bind (m := firstArgMember _ _) (wpAny_of_eq (a := Value.none) (by first | rfl | (simp only [firstArgMember]; rfl)) (wpAny_newObj_type ?_ (by size_fits)))) (by size_fits))
    simp only [raiseNew]
    refine wpAny_bind (wpAny_handled ?_)
    first | rw [show A.in1.handled = none from hh] | rw [hh]
    exact wpAny_bind (wpAny_pure (wpAny_throw (h _ _ (((Heap.SameBut.update ..).extBut.push _).push _) ⟨_, Heap.get?_push_size _ rfl, rfl⟩)))
/-- the five objects of a zip, apart -/
structure Z5 (z ti to i1 i2 : Addr) : Prop where
  a1 : ti ≠ z
  a2 : to ≠ z
  a3 : i1 ≠ z
  a4 : i2 ≠ z
  a5 : ti ≠ to
  a6 : ti ≠ i1
  a7 : ti ≠ i2
  a8 : to ≠ i1
  a9 : to ≠ i2
  a10 : i1 ≠ i2
structure Off (l z to i1 i2 : Addr) : Prop where
  z : l ≠ z
  o : l ≠ to
  i : l ≠ i1
  j : l ≠ i2
theorem zipN_item {b1 b2 : Bool} {z ti to i1 i2 l1 l2 : Addr} {k1 k2 : Nat} {xs ys : Array Value} {x y p q : Value} {Q : Value → Shared → Prop} (D : Z5 z ti to i1 i2) (m1 : Off l1 z to i1 i2) (m2 : Off l2 z to i1 i2)
    (hz : IsZip s.heap z ti to .none) (ht : IsPair s.heap ti (.ref i1) (.ref i2)) (hp : IsPair s.heap to p q)
    (h1 : SI b1 s.heap i1 l1 k1) (h2 : SI b2 s.heap i2 l2 k2) (o1 : SO b1 s.heap l1 xs) (o2 : SO b2 s.heap l2 ys) (hx : xs[k1]? = some x) (hy : ys[k2]? = some y)
    (hQ : ∀ h', IsZip h' z ti to (rawInt s.heap.objs.size) → IsPair h' to x y → SI b1 h' i1 l1 (k1 + 1) → SI b2 h' i2 l2 (k2 + 1) → IsPair h' s.heap.objs.size x y → h'.objs.size = s.heap.objs.size + 1 →
      (∀ c o, c ≠ z → c ≠ to → c ≠ i1 → c ≠ i2 → s.heap.get? c = some o → h'.get? c = some o) → Q (.ref s.heap.objs.size) { s with heap := h' }) :
    wpAny (model prog w) A (Builtin.«zip.__next__» ⟨[.ref z], []⟩) (fun fin s' => ∃ v, fin = .done (.ret v) ∧ Q v s') E s := by
  show wpAny _ _ (field (.ref z) 2 >>= _) _ _ _
  refine wpAny_bind (wpAny_field hz rfl (x := .bool false) rfl ?_)
  show wpAny _ _ (field (.ref z) 3 >>= _) _ _ _
  refine wpAny_bind (wpAny_field hz rfl (x := .ref ti) rfl (wpAny_bind (wpAny_seqItems ht rfl ?_)))
  show wpAny _ _ (Builtin.SmallTypes.ownedTupleIsFree (.ref z) >>= _) _ _ _
  refine wpAny_bind ?_
  unfold Builtin.SmallTypes.ownedTupleIsFree
  refine wpAny_bind (wpAny_field hz rfl (x := .none) rfl (wpAny_pure ?_))
  simp only [if_true]
  refine wpAny_bind (wpAny_rule (wpAny_bind (wpAny_field hz rfl (x := .ref to) rfl (wpAny_bind (wpAny_setField_rec hz (by simp) fun g1 hz1 u1 => ?_)))))
  have hz1' : IsZip g1 z ti to .ellipsis := hz1
  refine wpAny_bind ?_
  simp only [List.zipIdx_cons, List.zipIdx_nil, List.forIn_cons, List.forIn_nil]
  refine wpAny_bind (wpAny_bind (wpAny_onRaise ?_))
  show wpAny _ _ (Builtin.SmallTypes.nextOf (.ref i1) >>= _) _ _ _
  refine wpAny_bind (nx_some (h1.ext u1.extBut D.a3) (o1.ext u1.extBut m1.z) hx fun g2 n1 u2 => wpAny_pure ?_)
  have hp2 : IsPair g2 to p q := u2.extBut _ _ D.a8 (u1.extBut _ _ D.a2 hp)
  refine wpAny_bind (wpAny_seqItems hp2 rfl (wpAny_bind (wpAny_updateSeq_pair hp2 fun g3 hp3 u3 => ?_)))
  have hp3' : IsPair g3 to x q := hp3
  refine wpAny_bind (wpAny_letGo (wpAny_pure (wpAny_bind (wpAny_bind (wpAny_onRaise ?_)))))
  show wpAny _ _ (Builtin.SmallTypes.nextOf (.ref i2) >>= _) _ _ _
  refine wpAny_bind (nx_some (((h2.ext u1.extBut D.a4).ext u2.extBut D.a10.symm).ext u3.extBut D.a9.symm) (((o2.ext u1.extBut m2.z).ext u2.extBut m2.i).ext u3.extBut m2.o) hy fun g4 n2 u4 => wpAny_pure ?_)
  have hp4 : IsPair g4 to x q := u4.extBut _ _ D.a9 hp3'
  refine wpAny_bind (wpAny_seqItems hp4 rfl (wpAny_bind (wpAny_updateSeq_pair hp4 fun g5 hp5 u5 => ?_)))
  have hp5' : IsPair g5 to x y := hp5
  refine wpAny_bind (wpAny_letGo (wpAny_pure (wpAny_pure (wpAny_bind (wpAny_seqItems hp5' rfl (wpAny_bind (wpAny_newTuple ?_)))))))
  have hsz : g5.objs.size = s.heap.objs.size := by rw [u5.1, u4.1, u3.1, u2.1, u1.1]
  have hz5 : IsZip g5 z ti to .ellipsis := u5.extBut _ _ D.a2.symm (u4.extBut _ _ D.a4.symm (u3.extBut _ _ D.a2.symm (u2.extBut _ _ D.a3.symm hz1')))
  have kp : ∀ c o, c ≠ z → c ≠ to → c ≠ i1 → c ≠ i2 → s.heap.get? c = some o → g5.get? c = some o := fun c o c1 c2 c3 c4 e => u5.extBut _ _ c2 (u4.extBut _ _ c4 (u3.extBut _ _ c2 (u2.extBut _ _ c3 (u1.extBut _ _ c1 e))))
  have j1 : SI b1 g5 i1 l1 (k1 + 1) := ((n1.ext u3.extBut D.a8.symm).ext u4.extBut D.a10).ext u5.extBut D.a8.symm
  have j2 : SI b2 g5 i2 l2 (k2 + 1) := n2.ext u5.extBut D.a9.symm
  have hzl : z < g5.objs.size := Heap.lt_size hz5
  show wpAny _ _ (Builtin.SmallTypes.ownedTupleHandOut (.ref z) (.ref g5.objs.size) >>= _) _ _ _
  refine wpAny_bind ?_
  unfold Builtin.SmallTypes.ownedTupleHandOut
  have hz6 : IsZip (g5.push { cls := .type "tuple", data := .seq #[x, y] }) z ti to .ellipsis := Heap.get?_push_of_some _ hz5
  refine wpAny_bind (wpAny_setField_rec hz6 (by simp) fun g7 hz7 u7 => ?_)
  have hz7' : IsZip g7 z ti to (rawInt g5.objs.size) := hz7
  refine wpAny_setField_rec hz7' (by simp) fun g8 hz8 u8 => ?_
  have hz8' : IsZip g8 z ti to (rawInt g5.objs.size) := hz8
  have up : ∀ c o, c ≠ z → g5.get? c = some o → g8.get? c = some o := fun c o c1 e => u8.extBut _ _ c1 (u7.extBut _ _ c1 (Heap.get?_push_of_some _ e))
  have hT : IsPair g8 g5.objs.size x y := u8.extBut _ _ (Nat.ne_of_gt hzl) (u7.extBut _ _ (Nat.ne_of_gt hzl) (Heap.get?_push_size _ rfl))
  have hl8 : g8.objs.size = g5.objs.size + 1 := by rw [u8.1, u7.1, Heap.size_push]
  rw [hsz] at hz8' hT hl8
  refine wpAny_pure ⟨_, rfl, ?_⟩
  show Q (.ref g5.objs.size) _
  rw [hsz]
  exact hQ g8 hz8' (up _ _ D.a2 hp5') (j1.keep fun o e => up _ o D.a3 e) (j2.keep fun o e => up _ o D.a4 e) hT hl8 fun c o c1 c2 c3 c4 e => up c o c1 (kp c o c1 c2 c3 c4 e)
theorem zipN_end {b1 b2 : Bool} {z ti to i1 i2 l1 l2 : Addr} {k1 k2 : Nat} {xs ys : Array Value} {p q : Value} {Q : Fin → Shared → Prop} (hh : A.handled = none) (D : Z5 z ti to i1 i2) (m1 : Off l1 z to i1 i2) (m2 : Off l2 z to i1 i2)
    (hz : IsZip s.heap z ti to .none) (ht : IsPair s.heap ti (.ref i1) (.ref i2)) (hp : IsPair s.heap to p q)
    (h1 : SI b1 s.heap i1 l1 k1) (h2 : SI b2 s.heap i2 l2 k2) (o1 : SO b1 s.heap l1 xs) (o2 : SO b2 s.heap l2 ys) (hend : xs[k1]? = none ∨ ys[k2]? = none)
    (hE : ∀ h' e, (∀ c o, c ≠ z → c ≠ to → c ≠ i1 → c ≠ i2 → s.heap.get? c = some o → h'.get? c = some o) → (∃ o, h'.get? e = some o ∧ o.cls = .type "StopIteration") → E (.ref e) { s with heap := h' }) :
    wpAny (model prog w) A (Builtin.«zip.__next__» ⟨[.ref z], []⟩) Q E s := by
  show wpAny _ _ (field (.ref z) 2 >>= _) _ _ _
  refine wpAny_bind (wpAny_field hz rfl (x := .bool false) rfl ?_)
  show wpAny _ _ (field (.ref z) 3 >>= _) _ _ _
  refine wpAny_bind (wpAny_field hz rfl (x := .ref ti) rfl (wpAny_bind (wpAny_seqItems ht rfl ?_)))
  show wpAny _ _ (Builtin.SmallTypes.ownedTupleIsFree (.ref z) >>= _) _ _ _
  refine wpAny_bind ?_
  unfold Builtin.SmallTypes.ownedTupleIsFree
  refine wpAny_bind (wpAny_field hz rfl (x := .none) rfl (wpAny_pure ?_))
  simp only [if_true]
  refine wpAny_bind (wpAny_rule (wpAny_bind (wpAny_field hz rfl (x := .ref to) rfl (wpAny_bind (wpAny_setField_rec hz (by simp) fun g1 hz1 u1 => ?_)))))
  have hz1' : IsZip g1 z ti to .ellipsis := hz1
  refine wpAny_bind ?_
  simp only [List.zipIdx_cons, List.zipIdx_nil, List.forIn_cons, List.forIn_nil]
  refine wpAny_bind (wpAny_bind (wpAny_onRaise ?_))
  show wpAny _ _ (Builtin.SmallTypes.nextOf (.ref i1) >>= _) _ _ _
  cases hx : xs[k1]? with
  | none =>
    refine wpAny_bind (nx_none hh (h1.ext u1.extBut D.a3) (o1.ext u1.extBut m1.z) hx fun g2 e u2 he => ?_)
    obtain ⟨oe, y1, y2⟩ := he
    have hz2 : IsZip g2 z ti to .ellipsis := u2 _ _ D.a3.symm hz1'
    have ne : e ≠ z := fun x => by subst x; rw [hz2] at y1; cases y1; simp at y2
    exact wpAny_setField_rec hz2 (by simp) fun g3 _ u3 => hE g3 e (fun c o c1 _ c3 _ x => u3.extBut _ _ c1 (u2 _ _ c3 (u1.extBut _ _ c1 x))) ⟨oe, u3.extBut _ _ ne y1, y2⟩
  | some x =>
    have hy : ys[k2]? = none := by rcases hend with h | h; rw [hx] at h; cases h; exact h
    refine wpAny_bind (nx_some (h1.ext u1.extBut D.a3) (o1.ext u1.extBut m1.z) hx fun g2 n1 u2 => wpAny_pure ?_)
    have hp2 : IsPair g2 to p q := u2.extBut _ _ D.a8 (u1.extBut _ _ D.a2 hp)
    refine wpAny_bind (wpAny_seqItems hp2 rfl (wpAny_bind (wpAny_updateSeq_pair hp2 fun g3 hp3 u3 => ?_)))
    refine wpAny_bind (wpAny_letGo (wpAny_pure (wpAny_bind (wpAny_bind (wpAny_onRaise ?_)))))
    show wpAny _ _ (Builtin.SmallTypes.nextOf (.ref i2) >>= _) _ _ _
    refine wpAny_bind (nx_none hh (((h2.ext u1.extBut D.a4).ext u2.extBut D.a10.symm).ext u3.extBut D.a9.symm) (((o2.ext u1.extBut m2.z).ext u2.extBut m2.i).ext u3.extBut m2.o) hy fun g4 e u4 he => ?_)
    obtain ⟨oe, y1, y2⟩ := he
    have hz4 : IsZip g4 z ti to .ellipsis := u4 _ _ D.a4.symm (u3.extBut _ _ D.a2.symm (u2.extBut _ _ D.a3.symm hz1'))
    have ne : e ≠ z := fun x => by subst x; rw [hz4] at y1; cases y1; simp at y2
    exact wpAny_setField_rec hz4 (by simp) fun g5 _ u5 => hE g5 e (fun c o c1 c2 c3 c4 x => u5.extBut _ _ c1 (u4 _ _ c4 (u3.extBut _ _ c2 (u2.extBut _ _ c3 (u1.extBut _ _ c1 x))))) ⟨oe, u5.extBut _ _ ne y1, y2⟩
theorem pyNext_zip {b1 b2 : Bool} {z ti to i1 i2 l1 l2 : Addr} {k1 k2 : Nat} {xs ys : Array Value} {x y p q : Value} {Q : Option Value → Shared → Prop} (D : Z5 z ti to i1 i2) (m1 : Off l1 z to i1 i2) (m2 : Off l2 z to i1 i2)
    (hz : IsZip s.heap z ti to .none) (ht : IsPair s.heap ti (.ref i1) (.ref i2)) (hp : IsPair s.heap to p q)
    (h1 : SI b1 s.heap i1 l1 k1) (h2 : SI b2 s.heap i2 l2 k2) (o1 : SO b1 s.heap l1 xs) (o2 : SO b2 s.heap l2 ys) (hx : xs[k1]? = some x) (hy : ys[k2]? = some y)
    (hQ : ∀ h', IsZip h' z ti to (rawInt s.heap.objs.size) → IsPair h' to x y → SI b1 h' i1 l1 (k1 + 1) → SI b2 h' i2 l2 (k2 + 1) → IsPair h' s.heap.objs.size x y → h'.objs.size = s.heap.objs.size + 1 →
      (∀ c o, c ≠ z → c ≠ to → c ≠ i1 → c ≠ i2 → s.heap.get? c = some o → h'.get? c = some o) → Q (some (.ref s.heap.objs.size)) { s with heap := h' }) :
    wpAny (model prog w) A (pyNext (.ref z)) Q E s := by
  have ty : s.TypeIs (.ref z) "zip" := ⟨_, hz, rfl⟩
  unfold pyNext
  exact wpAny_bind (wpAny_attempt (wpAny_callSpecial?_slot (name := Str.ofString "__next__") ty F.slot_zip_next (wpAny_call_entry F.slot_zip_next ty F.entry_zip_next
    (zipN_item D m1 m2 hz ht hp h1 h2 o1 o2 hx hy fun h' c1 c2 c3 c4 c5 c6 c7 => wpAny_pure (hQ h' c1 c2 c3 c4 c5 c6 c7)) (F.args_zip_next_1 _))))
theorem pyNext_zipEnd {b1 b2 : Bool} {z ti to i1 i2 l1 l2 : Addr} {k1 k2 : Nat} {xs ys : Array Value} {p q : Value} {Q : Option Value → Shared → Prop} (hh : A.handled = none) (D : Z5 z ti to i1 i2) (m1 : Off l1 z to i1 i2) (m2 : Off l2 z to i1 i2)
    (hz : IsZip s.heap z ti to .none) (ht : IsPair s.heap ti (.ref i1) (.ref i2)) (hp : IsPair s.heap to p q)
    (h1 : SI b1 s.heap i1 l1 k1) (h2 : SI b2 s.heap i2 l2 k2) (o1 : SO b1 s.heap l1 xs) (o2 : SO b2 s.heap l2 ys) (hend : xs[k1]? = none ∨ ys[k2]? = none)
    (hQ : ∀ h', (∀ c o, c ≠ z → c ≠ to → c ≠ i1 → c ≠ i2 → s.heap.get? c = some o → h'.get? c = some o) → Q none { s with heap := h' }) : wpAny (model prog w) A (pyNext (.ref z)) Q E s := by
  have ty : s.TypeIs (.ref z) "zip" := ⟨_, hz, rfl⟩
  unfold pyNext
  refine wpAny_bind (wpAny_attempt (wpAny_callSpecial?_slot (name := Str.ofString "__next__") ty F.slot_zip_next (wpAny_call_entry F.slot_zip_next ty F.entry_zip_next
    (zipN_end hh D m1 m2 hz ht hp h1 h2 o1 o2 hend fun h' e hk he => ?_) (F.args_zip_next_1 _))))
  obtain ⟨o, y1, y2⟩ := he
  exact wpAny_bind (wpAny_isInstance (T := "StopIteration") (b := true) ⟨o, y1, y2⟩ isSubtype_stop (wpAny_pure (hQ _ hk)))
theorem pyIter_sq {b : Bool} {l : Addr} {xs : Array Value} {Q : Value → Shared → Prop} (h : SO b s.heap l xs) (q : Q (.ref s.heap.objs.size) { s with heap := s.heap.push { cls := .type (itN b), data := .fields #[.ref l, .int 0 0] } }) :
    wpAny (model prog w) A (pyIter (.ref l)) Q E s := by
  cases b with
  | true => exact wpAny_pyIter_list h q
  | false => exact wpAny_pyIter_tuple h q
end
/-- the heap behind zip(l1, l2) -/
def zh1 (b1 : Bool) (h : Heap) (l1 : Addr) : Heap := h.push { cls := .type (itN b1), data := .fields #[.ref l1, .int 0 0] }
def zh2 (b1 b2 : Bool) (h : Heap) (l1 l2 : Addr) : Heap := (zh1 b1 h l1).push { cls := .type (itN b2), data := .fields #[.ref l2, .int 0 0] }
def zh3 (b1 b2 : Bool) (h : Heap) (l1 l2 : Addr) : Heap := (zh2 b1 b2 h l1 l2).push { cls := .type "tuple", data := .seq #[.ref h.objs.size, .ref (zh1 b1 h l1).objs.size] }
def zh4 (b1 b2 : Bool) (h : Heap) (l1 l2 : Addr) : Heap := (zh3 b1 b2 h l1 l2).push { cls := .type "tuple", data := .seq #[.none, .none] }
def zh5 (b1 b2 : Bool) (h : Heap) (l1 l2 : Addr) : Heap := (zh4 b1 b2 h l1 l2).push { cls := .type "zip", data := .fields #[.none, .bool false, .bool false, .ref (zh2 b1 b2 h l1 l2).objs.size, .ref (zh3 b1 b2 h l1 l2).objs.size] }
theorem SO.push {b : Bool} {h : Heap} {l : Addr} {xs : Array Value} (x : SO b h l xs) (o : Obj) : SO b (h.push o) l xs := let ⟨u, e, r⟩ := x; ⟨u, Heap.get?_push_of_some _ e, r⟩
theorem meets_zipN (b1 b2 : Bool) (l1 l2 : Addr) (xs ys : Array Value) :
    Meets (Builtin.«zip.__new__» ⟨[.type "zip", .ref l1, .ref l2], []⟩) (fun _ R s => SO b1 s.heap l1 xs ∧ SO b2 s.heap l2 ys ∧ R (.ok (.ret (.ref (zh4 b1 b2 s.heap l1 l2).objs.size))) { s with heap := zh5 b1 b2 s.heap l1 l2 }) :=
  .of_wp fun prog w A R s h => by
    obtain ⟨hp, gg, dd, tk, os⟩ := s
    obtain ⟨ha, hb, h⟩ := h
    have hsub := sub_zip
    have f1 : SO b1 (Shared.heap ⟨hp, gg, dd, tk, os⟩) l1 xs := ha
    have f2 : SO b2 (Shared.heap ⟨hp.push { cls := .type (itN b1), data := .fields #[.ref l1, .int 0 0] }, gg, dd, tk, os⟩) l2 ys := SO.push hb _
    wp_walk using pyIter_sq f1, pyIter_sq f2
    exact ⟨_, rfl, h⟩
end DL

set_option maxRecDepth 100000
set_option maxHeartbeats 4000000
namespace DL
open PySem PySem.Spec PyProof.Rows L2
variable [Lam]
section
variable {X : Cx} {pins : List (Addr × Obj)} {σ : St} {H : Hp} {s : Shared} {h' : Heap}
/-- some records of ours have turned -/
theorem turnedL {fp : List Addr} {t' : Nat} (I : Inv X pins σ H s) (hf : ∀ b ∈ fp, FpOk X pins H b) (k : ∀ b o, b ∉ fp → s.heap.get? b = some o → h'.get? b = some o) : Inv X pins σ H { s with heap := h', toks := t' } := by
  have nin : ∀ b u, H b = some u → b ∉ fp := fun b u e hb => by rw [(hf b hb).1] at e; cases e
  refine I.step (g' := s.gens) (d' := s.drawn) (ch := fp) (fun b hb => ?_) (fun b o _ _ hc e _ => k b o hc e) (fun b o _ _ hc e _ => ⟨o.slots, k b o hc e⟩) (fun _ _ _ _ n => n)
    (fun b o hc e => ⟨o, k b o hc e⟩) (fun _ _ e => e) (fun _ _ _ e => e) (fun b ps e => ⟨#[], by rw [e]; simp⟩) (fun m hm => ?_) (fun b u e => ?_) I.bare
  · obtain ⟨_, f1, _, f3, f4, f5⟩ := hf b hb
    exact ⟨f3, f1, f4, f5⟩
  · obtain ⟨o, es, ep, ho, r⟩ := hm
    exact ⟨o, es, ep, k _ o (fun z => (hf _ z).2.1 rfl) ho, r⟩
  · refine (I.hok b u e).stay (fun c v hc q => k c v ?_ q) (fun _ q => q) fun _ _ q => q
    rcases hc with z | z
    · rw [z]; exact nin b u e
    · exact nin c _ z
/-- a record of ours is tracked from now on -/
theorem adopt {p : Addr} {o : HO} (I : Inv X pins σ H s) (f : FpOk X pins H p) (new : ObjOk X.prog X.w (upd H p o) s.heap p o) : Inv X pins σ (upd H p o) s := by
  have hp := f.1
  obtain ⟨_, f1, _, f3, f4, f5⟩ := f
  have ne : ∀ {b : Addr} {u : HO}, H b = some u → upd H p o b = some u := fun {b u} e => by rw [upd_ne (ne_of_none e hp)]; exact e
  refine I.step (h' := s.heap) (g' := s.gens) (t' := s.toks) (d' := s.drawn) (ch := [p]) (fun b hb => ?_) (fun b o _ _ hc e _ => e) (fun b o _ _ hc e _ => ⟨o.slots, e⟩) (fun b o hc e n => ?_)
    (fun b o hc e => ⟨o, e⟩) (fun _ _ e => ne e) (fun _ _ _ e => ne e) (fun b ps e => ⟨#[], by rw [ne e]; simp⟩) (fun m hm => hm) (fun b u e => ?_) I.bare
  · obtain rfl : b = p := by simpa using hb
    exact ⟨f3, f1, f4, f5⟩
  · rw [upd_ne (fun z => hc (by simp [z]))]; exact n
  · by_cases hb : b = p
    · subst hb; rw [upd_same] at e; cases e; exact new
    · rw [upd_ne hb] at e
      exact (I.hok b u e).stay (fun c v _ q => q) (fun c q => ne q) fun c xs q => ne q
/-- a list (b) or tuple that is read -/
def Sq : Bool → Frag → Hp → Addr → List V → Prop
  | true => SqL
  | false => SqT
theorem sq_so {b : Bool} {a : Addr} {xs : List V} (I : Inv X pins σ H s) (h : Sq b X.K H a xs) : ∃ its : List Value, Vals xs its ∧ SO b s.heap a its.toArray := by
  cases b with
  | true => obtain ⟨its, r, ⟨o, n, e, c, _, d⟩, _⟩ := I.list h; exact ⟨its, r, o, e, c, n, d⟩
  | false => obtain ⟨its, r, ⟨o, e, c, n, d⟩, _⟩ := I.tuple h; exact ⟨its, r, o, e, c, n, d⟩
theorem sq_inj {b : Bool} {a : Addr} {xs ys : List V} (I : Inv X pins σ H s) (h : Sq b X.K H a xs) (h' : Sq b X.K H a ys) : xs = ys := by
  cases b with
  | true => exact I.list_inj h h'
  | false => exact I.tuple_inj h h'
theorem sq_same {b : Bool} {K : Frag} {F H : Hp} {a : Addr} {xs : List V} (e : Same F H) (h : Sq b K F a xs) : Sq b K H a xs := by
  cases b with
  | true => exact e.seq h
  | false => exact same_seqT e h
theorem sq_off {b : Bool} {a c : Addr} {xs : List V} (I : Inv X pins σ H s) (h : Sq b X.K H a xs) (f : FpOk X pins H c) : a ≠ c := by
  obtain ⟨f0, f1, f2, f3, _⟩ := f
  have inK : ∀ {o : Obj}, X.K.lookup a = some o → a ≠ c := fun {o} hk z => by
    subst z
    have hb : X.base.get? a = some o := I.mod.kin a o hk
    rcases f3 with q | q
    · exact I.ok.noex a o hb q
    · exact absurd (Nat.lt_of_lt_of_le (Heap.lt_size hb) (Nat.le_trans I.ok.bsz q)) (Nat.lt_irrefl _)
  have trk : ∀ {u : HO}, H a = some u → a ≠ c := fun {u} e z => by subst z; rw [f0] at e; cases e
  cases b with
  | true =>
    rcases h with (h | ⟨o, h⟩) | ⟨o, its, n, hk, _⟩
    · exact trk h
    · exact trk h
    · exact inK hk
  | false =>
    rcases h with (h | ⟨o, h⟩) | ⟨o, its, n, hk, _⟩
    · exact trk h
    · exact trk h
    · exact inK hk
end
/-- the pairs of two sequences -/
def Itz (K : Frag) (b1 : Bool) (a1 : Addr) (b2 : Bool) (a2 : Addr) : It :=
  ⟨fun i H => ∃ xs ys x y, Sq b1 K H a1 xs ∧ Sq b2 K H a2 ys ∧ xs[i]? = some x ∧ ys[i]? = some y,
   fun i H v H' => ∃ p x y, H p = none ∧ (∀ xs, Sq b1 K H a1 xs → xs[i]? = some x) ∧ (∀ ys, Sq b2 K H a2 ys → ys[i]? = some y) ∧ v = .ref p ∧ H' = upd H p (.tup [x, y]),
   fun i H => ∃ xs ys, Sq b1 K H a1 xs ∧ Sq b2 K H a2 ys ∧ (xs.length ≤ i ∨ ys.length ≤ i)⟩
theorem turn_zip {P : Program} {w : World} {K : Frag} {elts : List Expr} {x1} {tp : Pos} {b1 b2 : Bool} {a1 a2 z ti to i1 i2 : Addr} (D : Z5 z ti to i1 i2) :
    Turn P w K (.Tuple elts x1 tp) (Itz K b1 a1 b2 a2) [z, ti, to, i1, i2] z
      (fun i h => IsZip h z ti to .none ∧ IsPair h ti (.ref i1) (.ref i2) ∧ (∃ p q, IsPair h to p q) ∧ SI b1 h i1 a1 i ∧ SI b2 h i2 a2 i) where
  mem := by simp
  obj := fun i h ⟨c1, c2, ⟨p, q, c3⟩, ⟨o4, c4, _, d4⟩, ⟨o5, c5, _, d5⟩⟩ b hb => by
    simp only [List.mem_cons, List.not_mem_nil, or_false] at hb
    rcases hb with rfl | rfl | rfl | rfl | rfl
    · exact ⟨_, c1, fun v z => by cases z⟩
    · exact ⟨_, c2, fun v z => by cases z⟩
    · exact ⟨_, c3, fun v z => by cases z⟩
    · exact ⟨_, c4, fun v z => by rw [d4] at z; cases z⟩
    · exact ⟨_, c5, fun v z => by rw [d5] at z; cases z⟩
  keep := fun i h h' ⟨c1, c2, ⟨p, q, c3⟩, c4, c5⟩ k => ⟨k _ (by simp) _ c1, k _ (by simp) _ c2, ⟨p, q, k _ (by simp) _ c3⟩, c4.keep fun o e => k _ (by simp) o e, c5.keep fun o e => k _ (by simp) o e⟩
  item := by
    intro X hP hw hK hc i pins s σ H E I hf st hg
    subst hP hw hK
    obtain ⟨xs, ys, x, y, q1, q2, hx, hy⟩ := hg
    obtain ⟨its1, v1, o1⟩ := sq_so I q1
    obtain ⟨its2, v2, o2⟩ := sq_so I q2
    obtain ⟨u1, hu1, ru1⟩ := v1.get hx
    obtain ⟨u2, hu2, ru2⟩ := v2.get hy
    obtain ⟨c1, c2, ⟨p, q, c3⟩, c4, c5⟩ := st
    have off : ∀ {b : Bool} {a : Addr} {ws : List V}, Sq b X.K H a ws → Off a z to i1 i2 := fun h => ⟨sq_off I h (hf _ (by simp)), sq_off I h (hf _ (by simp)), sq_off I h (hf _ (by simp)), sq_off I h (hf _ (by simp))⟩
    refine pyNext_zip D (off q1) (off q2) c1 c2 c3 c4 c5 o1 o2 (x := u1) (y := u2) (by simpa using hu1) (by simpa using hu2) fun g n1 n2 n3 n4 n5 n6 n7 => ?_
    refine ⟨_, rfl, wpAny_letOwnedTupleGo_zip n1 fun g2 m1 sb => ?_⟩
    have hsz : z < s.heap.objs.size := Heap.lt_size c1
    have kp : ∀ c o, c ∉ [z, ti, to, i1, i2] → s.heap.get? c = some o → g2.get? c = some o := fun c o hc e => by
      simp only [List.mem_cons, List.not_mem_nil, or_false, not_or] at hc
      exact sb.extBut _ _ hc.1 (n7 c o hc.1 hc.2.2.1 hc.2.2.2.1 hc.2.2.2.2 e)
    have I1 : Inv X pins σ H { s with heap := g2 } := turnedL (t' := s.toks) I hf kp
    have fp : FpOk X pins H s.heap.objs.size := I.fpOk (Nat.le_refl _) I.fresh
    have hT : IsPair g2 s.heap.objs.size u1 u2 := sb.extBut _ _ (Nat.ne_of_gt hsz) n5
    have I2 : Inv X pins σ (upd H s.heap.objs.size (.tup [x, y])) { s with heap := g2 } :=
      adopt I1 fp ⟨by show 2 ≤ sizeLine; decide, [u1, u2], .cons ru1 (.cons ru2 .nil), ⟨_, hT, rfl, _, rfl⟩⟩
    refine ⟨.ref s.heap.objs.size, _, I2, rfl, ⟨_, x, y, I.fresh, fun ws h => ?_, fun ws h => ?_, rfl, rfl⟩, ⟨m1, ?_, ⟨u1, u2, sb.extBut _ _ D.a2 n2⟩, n3.ext sb.extBut D.a3, n4.ext sb.extBut D.a4⟩, fun b hb => ?_⟩
    · rw [sq_inj I h q1]; exact hx
    · rw [sq_inj I h q2]; exact hy
    · exact sb.extBut _ _ D.a1 (n7 _ _ D.a1 D.a5 D.a6 D.a7 c2)
    · have hb0 := (hf b hb).1
      have : b ≠ s.heap.objs.size := by
        simp only [List.mem_cons, List.not_mem_nil, or_false] at hb
        rcases hb with rfl | rfl | rfl | rfl | rfl
        · exact Nat.ne_of_lt hsz
        · exact Nat.ne_of_lt (Heap.lt_size c2)
        · exact Nat.ne_of_lt (Heap.lt_size c3)
        · obtain ⟨_, e, _⟩ := c4; exact Nat.ne_of_lt (Heap.lt_size e)
        · obtain ⟨_, e, _⟩ := c5; exact Nat.ne_of_lt (Heap.lt_size e)
      rw [upd_ne this]; exact hb0
  done := by
    intro X hP hw hK hc i pins s σ H E I hf st hg
    subst hP hw hK
    obtain ⟨xs, ys, q1, q2, hend⟩ := hg
    obtain ⟨its1, v1, o1⟩ := sq_so I q1
    obtain ⟨its2, v2, o2⟩ := sq_so I q2
    obtain ⟨c1, c2, ⟨p, q, c3⟩, c4, c5⟩ := st
    have off : ∀ {b : Bool} {a : Addr} {ws : List V}, Sq b X.K H a ws → Off a z to i1 i2 := fun h => ⟨sq_off I h (hf _ (by simp)), sq_off I h (hf _ (by simp)), sq_off I h (hf _ (by simp)), sq_off I h (hf _ (by simp))⟩
    refine pyNext_zipEnd (I.ok.hd hc) D (off q1) (off q2) c1 c2 c3 c4 c5 o1 o2 ?_ fun g n7 => ⟨rfl, turnedL (t' := s.toks) I hf fun c o hc e => ?_⟩
    · have l1 := v1.length
      have l2 := v2.length
      rcases hend with h | h
      · exact .inl (by simp; lia)
      · exact .inr (by simp; lia)
    · simp only [List.mem_cons, List.not_mem_nil, or_false, not_or] at hc
      exact n7 c o hc.1 hc.2.2.1 hc.2.2.2.1 hc.2.2.2.2 e
  self := fun A i s Q E st h => wpAny_pyIter_zip st.1 h

def zipD (xs ys : List D) : List D := List.zipWith (fun a b => .tup [a, b]) xs ys
theorem itd_zip {K : Frag} {F : Hp} {b1 b2 : Bool} {a1 a2 : Addr} {xs ys : List V} {ds es : List D} (h1 : Sq b1 K F a1 xs) (h2 : Sq b2 K F a2 ys) (r1 : RepL K F ds xs) (r2 : RepL K F es ys) : ItD K F (zipD ds es) (Itz K b1 a1 b2 a2) where
  go := fun i F' H s1 s2 hi => by
    have hi' : i < ds.length ∧ i < es.length := by unfold zipD at hi; rw [List.length_zipWith] at hi; lia
    exact ⟨xs, ys, xs[i]'(by rw [← r1.length]; exact hi'.1), ys[i]'(by rw [← r2.length]; exact hi'.2), sq_same (s1.trans s2) h1, sq_same (s1.trans s2) h2, by simp, by simp⟩
  yld := fun i d F' H x H' s1 s2 hi ⟨p, x1, y1, hp, q1, q2, e1, e2⟩ => by
    subst e1 e2
    unfold zipD at hi
    rw [List.getElem?_zipWith] at hi
    cases z1 : ds[i]? with
    | none => rw [z1] at hi; cases hi
    | some d1 =>
      cases z2 : es[i]? with
      | none => rw [z1, z2] at hi; cases hi
      | some d2 =>
        rw [z1, z2] at hi
        cases hi
        obtain ⟨v1, k1, k2⟩ := r1.get z1
        obtain ⟨v2, k3, k4⟩ := r2.get z2
        have w1 := q1 xs (sq_same (s1.trans s2) h1)
        have w2 := q2 ys (sq_same (s1.trans s2) h2)
        rw [k1] at w1; cases w1
        rw [k3] at w2; cases w2
        have gn : Grow F' H (upd F' p (.tup [x1, y1])) (upd H p (.tup [x1, y1])) := Grow.new s2 hp
        exact ⟨_, gn, rep_tup.mpr ⟨p, _, rfl, SqT.of upd_same, .cons ((k2.mono s1).mono gn.ff) (.cons ((k4.mono s1).mono gn.ff) .nil)⟩⟩
  stop := fun i F' H s1 s2 hi => by
    unfold zipD at hi
    rw [List.length_zipWith] at hi
    refine ⟨xs, ys, sq_same (s1.trans s2) h1, sq_same (s1.trans s2) h2, ?_⟩
    rw [← r1.length, ← r2.length]
    lia
section
variable {X : Cx} {pos : Pos} {elts : List Expr} {x1 : Nat} {tp : Pos}
def wZip (K : Frag) (ta : TA) : TI := fun σ H R => ta σ H fun vs H1 => ∃ b1 a1 xs b2 a2 ys, vs = [.ref a1, .ref a2] ∧ Sq b1 K H1 a1 xs ∧ Sq b2 K H1 a2 ys ∧ R (Itz K b1 a1 b2 a2) H1
theorem boot_zip' : bootBuiltins "zip" = some (.type "zip") := by decide +kernel
theorem pi_zip {a b : Expr} {ta : TA} {p : Pos} (hg : Gl X "zip") (hm : X.mg "zip" = none) (ha : PA X [a, b] ta) (hs : starEach [a, b] X.env = [(false, eval a X.env), (false, eval b X.env)] := by rfl) (hs2 : starEach [b] X.env = [(false, eval b X.env)] := by rfl) :
    PI X (.Tuple elts x1 tp) (.Call (.Name "zip" p) [a, b] [] pos) (wZip X.K ta) := by
  intro pins s σ H R I h
  refine Call_ (ld_blt I hg hm boot_zip' (PyProof.Rows.callWith_type1 (thn (ha pos pins s σ H _ I h) fun us s1 ⟨vs, H1, I1, r1, q1⟩ => ?_) (by rw [hs, hs2]) (by rw [hs2]; rfl)))
  obtain ⟨b1, a1, xs, b2, a2, ys, rfl, k1, k2, q⟩ := q1
  obtain ⟨u1, u2, rfl, e1, e2⟩ := r1.two
  cases e1
  cases e2
  obtain ⟨its1, v1, o1⟩ := sq_so I1 k1
  obtain ⟨its2, v2, o2⟩ := sq_so I1 k2
  refine callType_new F.called_zip (by decide) (F.typeCall_zip_2 _ _) (F.newCall_zip_2 _ _) (fun obj => F.args_object_init_3 obj _ _) F.entry_zip_new (meets_zipN b1 b2 a1 a2 its1.toArray its2.toArray) ⟨o1, o2, ?_⟩
  have z1 : (zh1 b1 s1.heap a1).objs.size = s1.heap.objs.size + 1 := Heap.size_push ..
  have z2 : (zh2 b1 b2 s1.heap a1 a2).objs.size = s1.heap.objs.size + 2 := by unfold zh2; rw [Heap.size_push, z1]
  have z3 : (zh3 b1 b2 s1.heap a1 a2).objs.size = s1.heap.objs.size + 3 := by unfold zh3; rw [Heap.size_push, z2]
  have z4 : (zh4 b1 b2 s1.heap a1 a2).objs.size = s1.heap.objs.size + 4 := by unfold zh4; rw [Heap.size_push, z3]
  have g5 : (zh5 b1 b2 s1.heap a1 a2).get? (zh4 b1 b2 s1.heap a1 a2).objs.size = some { cls := .type "zip", data := .fields #[.none, .bool false, .bool false, .ref (zh2 b1 b2 s1.heap a1 a2).objs.size, .ref (zh3 b1 b2 s1.heap a1 a2).objs.size] } := Heap.get?_push_size _ rfl
  have g4 : (zh5 b1 b2 s1.heap a1 a2).get? (zh3 b1 b2 s1.heap a1 a2).objs.size = some { cls := .type "tuple", data := .seq #[.none, .none] } := Heap.get?_push_of_some _ (Heap.get?_push_size _ rfl)
  have g3 : (zh5 b1 b2 s1.heap a1 a2).get? (zh2 b1 b2 s1.heap a1 a2).objs.size = some { cls := .type "tuple", data := .seq #[.ref s1.heap.objs.size, .ref (zh1 b1 s1.heap a1).objs.size] } := Heap.get?_push_of_some _ (Heap.get?_push_of_some _ (Heap.get?_push_size _ rfl))
  have g2 : (zh5 b1 b2 s1.heap a1 a2).get? (zh1 b1 s1.heap a1).objs.size = some { cls := .type (itN b2), data := .fields #[.ref a2, .int 0 0] } := Heap.get?_push_of_some _ (Heap.get?_push_of_some _ (Heap.get?_push_of_some _ (Heap.get?_push_size _ rfl)))
  have g1 : (zh5 b1 b2 s1.heap a1 a2).get? s1.heap.objs.size = some { cls := .type (itN b1), data := .fields #[.ref a1, .int 0 0] } := Heap.get?_push_of_some _ (Heap.get?_push_of_some _ (Heap.get?_push_of_some _ (Heap.get?_push_of_some _ (Heap.get?_push_size _ rfl))))
  have kp : ∀ c o, s1.heap.get? c = some o → (zh5 b1 b2 s1.heap a1 a2).get? c = some o := fun c o e => Heap.get?_push_of_some _ (Heap.get?_push_of_some _ (Heap.get?_push_of_some _ (Heap.get?_push_of_some _ (Heap.get?_push_of_some _ e))))
  have I2 : Inv X pins σ H1 { s1 with heap := zh5 b1 b2 s1.heap a1 a2 } := I1.kept (t' := s1.toks) kp
  refine ⟨⟨_, g5, rfl⟩, wpAny_pyIter_zip g5 ?_⟩
  refine ⟨_, _, _, _, H1, rfl, I2, turn_zip (b1 := b1) (b2 := b2) (a1 := a1) (a2 := a2) (i1 := s1.heap.objs.size) (i2 := (zh1 b1 s1.heap a1).objs.size) ?_, ⟨g5, g3, ⟨_, _, g4⟩, ⟨_, g1, rfl, rfl⟩, ⟨_, g2, rfl, rfl⟩⟩, fun c hc => ?_, q⟩
  · constructor <;> (first | exact Nat.ne_of_lt (by lia) | exact Nat.ne_of_gt (by lia))
  · have hge : s1.heap.objs.size ≤ c := by
      simp only [List.mem_cons, List.not_mem_nil, or_false] at hc
      rcases hc with rfl | rfl | rfl | rfl | rfl <;> lia
    exact I1.fpOk hge (I1.hok.fresh hge)
def iZip (fa : FA) : FA := fun ρ => (fa ρ).bind fun ds => match ds with
  | [x, y] => (seqD x).bind fun xs => (seqD y).map fun ys => zipD xs ys
  | _ => none
theorem seqD_sq {K : Frag} {F : Hp} {d : D} {ds : List D} {v : V} (h : seqD d = some ds) (r : Rep K F d v) : ∃ b a xs, v = .ref a ∧ Sq b K F a xs ∧ RepL K F ds xs := by
  cases d <;> simp only [seqD] at h <;> first | (cases h; done) | skip
  · cases h
    obtain ⟨a, xs, rfl, h3, h4⟩ := rep_tup.mp r
    exact ⟨false, a, xs, rfl, h3, h4⟩
  · cases h
    obtain ⟨a, xs, rfl, h3, h4⟩ := rep_lst.mp r
    exact ⟨true, a, xs, rfl, h3, h4⟩
theorem id_zip {a b : Expr} {fa : FA} {p : Pos} (hg : Gl X "zip") (hm : X.mg "zip" = none) (ha : PA X [a, b] (tDA X.K fa)) (hs : starEach [a, b] X.env = [(false, eval a X.env), (false, eval b X.env)] := by rfl) (hs2 : starEach [b] X.env = [(false, eval b X.env)] := by rfl) :
    PI X (.Tuple elts x1 tp) (.Call (.Name "zip" p) [a, b] [] pos) (tDI X.K (iZip fa)) := pi_imp (pi_zip hg hm ha hs hs2) fun σ H R ⟨F0, H0, F, ρ, ds, r, hf, q⟩ => by
  obtain ⟨es, h1, h2⟩ := Option.bind_eq_some_iff.mp hf
  refine ⟨F0, H0, F, ρ, es, r, h1, fun vs F' H' g' r' => ?_⟩
  split at h2
  · rename_i x y
    obtain ⟨xs, k1, h2⟩ := Option.bind_eq_some_iff.mp h2
    obtain ⟨ys, k2, h2⟩ := Option.map_eq_some_iff.mp h2
    subst h2
    obtain ⟨v1, t, rfl, e1, e2⟩ := r'.cons_inv
    obtain ⟨v2, t2, rfl, e3, e4⟩ := e2.cons_inv
    cases e4.nil_inv
    obtain ⟨b1, a1, us, rfl, s1, l1⟩ := seqD_sq k1 e1
    obtain ⟨b2, a2, ws, rfl, s2, l2⟩ := seqD_sq k2 e3
    exact ⟨b1, a1, us, b2, a2, ws, rfl, sq_same g'.fh s1, sq_same g'.fh s2, q _ F' H' g' (itd_zip s1 s2 l1 l2)⟩
  · cases h2
end
end DL

set_option maxRecDepth 100000
set_option maxHeartbeats 4000000
namespace DL
open PySem PySem.Spec PyProof.Rows L2
variable [Lam]
section
variable {X : Cx} {e : Expr} {es : List Expr} {kws : List Keyword} {pos : Pos} {f g : FE} {fa fk : FA}
/-! ### keywords -/
theorem pk_imp {t t' : TA} (h : PK X kws t) (i : ∀ σ H Q, t' σ H Q → t σ H Q) : PK X kws t' := fun pos pins s σ H Q I q => h pos pins s σ H Q I (i σ H Q q)
theorem kd_nil : PK X [] (tDA X.K aNil) := pk_imp pk_nil fun σ H Q ⟨F0, H0, F, ρ, ds, r, hf, q⟩ => by
  cases hf
  exact q [] F H (.refl r.fh) .nil
theorem kd_cons {nm : Option Str} {kpos : Pos} (ha : PE X e (tD X.K f)) (hr : PK X kws (tDA X.K fa)) : PK X (⟨nm, e, kpos⟩ :: kws) (tDA X.K (aCons f fa)) :=
  pk_imp (pk_cons ha hr) fun σ H Q ⟨F0, H0, F, ρ, ds, r, hf, q⟩ => by
    obtain ⟨d, h1, hf⟩ := Option.bind_eq_some_iff.mp hf
    obtain ⟨ds', h2, h3⟩ := Option.map_eq_some_iff.mp hf
    subst h3
    refine ⟨F0, H0, F, ρ, d, r, h1, fun v F1 H1 g1 r1 => ⟨F0, H0, F1, ρ, ds', r.grow g1, h2, fun vs F2 H2 g2 r2 => ?_⟩⟩
    exact q _ F2 H2 (g1.trans g2) (.cons (r1.mono g2.ff) r2)
def aApp (n m : Nat) (fa fk : FA) : FA := fun ρ => (fa ρ).bind fun ds => (fk ρ).bind fun es => if ds.length = n ∧ es.length = m then some (ds ++ es) else none
/-- the keywords stand in the parameters' order behind the n positional arguments -/
def joinN {α : Type} (n m : Nat) (us ws : List α) : List α := if us.length = n ∧ ws.length = m then us ++ ws else []
def KB (K : Frag) (fd : FuncData) (ps ks : List Str) (n m : Nat) : Prop := KBinds K fd ps ks (joinN n m) (joinN n m)
theorem kb_mk {K : Frag} {fd : FuncData} {ps ks : List Str} {n m : Nat} (hp : ps ≠ []) (h : ∀ (s : Shared) (us ws : List Value), K.In s.heap → us.length = n → ws.length = m → BindsTo s fd ⟨us, ks.zip ws⟩ (ps.zip (us ++ ws))) : KB K fd ps ks n m := by
  refine ⟨fun s us ws hk hl => ?_, fun {vs us zs ws} a b => ?_⟩
  · unfold joinN at hl ⊢
    split at hl
    · rename_i z
      rw [if_pos z]
      exact h s us ws hk z.1 z.2
    · exact absurd (List.eq_nil_of_length_eq_zero hl.symm) hp
  · unfold joinN
    rw [a.length, b.length]
    split
    · exact a.append b
    · exact .nil
theorem bd_mk {K : Frag} {fd : FuncData} {ps : List Str} {dv : List Value} (n : Nat) (hn : n + dv.length = ps.length) (h : ∀ (s : Shared) (us : List Value), K.In s.heap → us.length = n → BindsTo s fd ⟨us, []⟩ (ps.zip (us ++ dv))) : Binds K fd ps dv :=
  fun s us hk hl => h s us hk (by rw [List.length_append] at hl; omega)
def callK (ar : Nat) (op : List D → Option D) : List D → Option D := fun ds => if ds.length = ar then op ds else none
theorem pd_callK {k ar n m : Nat} {fn : Addr} {fd : FuncData} {ps ks : List Str} {op : List D → Option D} {x : Str} {p : Pos} (F : FnOk X.prog X.w X.K X.mg X.base CX0 k fn fd ps (spD X.K ar op)) (hr : Room k X.A) (hg : Gl X x) (hm : X.mg x = some (.ref fn)) (hk : PySem.W.keepIn X.K (.ref fn) = true)
    (hb : KB X.K fd ps ks n m) (ha : PA X (e :: es) (tDA X.K fa)) (hkw : PK X kws (tDA X.K fk)) (hall : (backToKw pos (keywordEach kws X.env)).all (·.1.isSome) = true := by rfl) (hks : (backToKw pos (keywordEach kws X.env)).filterMap (·.1) = ks := by rfl)
    (hdb : (x == ("__debug__" : Str)) = false := by decide) (he : starEach (e :: es) X.env = (false, eval e X.env) :: starEach es X.env := by rfl)
    (hpl : ((backTo pos (starEach (e :: es) X.env)).any (·.1) || (backToKw pos (keywordEach kws X.env)).any (·.1.isNone)) = false := by rfl) :
    PE X (.Call (.Name x p) (e :: es) kws pos) (tD X.K (eCall (callK ar op) (aApp n m fa fk))) :=
  pe_imp (pe_callK F hr hg hm hk hb pass0 ha hkw hall hks hdb he hpl) fun σ H Q ⟨F0, H0, Fz, ρ, d, r, hf, q⟩ => by
    obtain ⟨ds, h1, h2⟩ := Option.bind_eq_some_iff.mp hf
    obtain ⟨ds1, h3, h4⟩ := Option.bind_eq_some_iff.mp h1
    obtain ⟨ds2, h5, h6⟩ := Option.bind_eq_some_iff.mp h4
    split at h6
    · rename_i hc
      cases h6
      unfold callK at h2
      split at h2
      · rename_i hl
        refine ⟨F0, H0, Fz, ρ, ds1, r, h3, fun vs F1 H1 g1 r1 => ⟨F0, H0, F1, ρ, ds2, r.grow g1, h5, fun zs F2 H2 g2 r2 => ?_⟩⟩
        have ej : joinN n m vs zs = vs ++ zs := if_pos ⟨by rw [← r1.length]; exact hc.1, by rw [← r2.length]; exact hc.2⟩
        show spD X.K ar op (joinN n m vs zs) H2 Q E0
        rw [ej]
        exact ⟨F2, ds1 ++ ds2, d, r.sameT (g1.trans g2), (r1.mono g2.ff).append r2, hl, h2, fun v F3 H3 g3 r3 => q v F3 H3 (g1.trans (g2.trans g3)) r3⟩
      · cases h2
    · cases h6
end
/-! ### what a caller knows of a def -/
structure Cal (P : Program) (w : World) (K : Frag) (mg : Str → Option Value) (base : Heap) (x : Str) (k : Nat) (ps : List Str) (ar : Nat) (op : List D → Option D) (fn : Addr) (fd : FuncData) : Prop where
  ok : FnOk P w K mg base CX0 k fn fd ps (spD K ar op)
  mg : mg x = some (.ref fn)
  kp : PySem.W.keepIn K (.ref fn) = true
section
variable {X : Cx} {e : Expr} {es : List Expr} {kws : List Keyword} {pos p : Pos} {fa fk : FA} {k ar k' : Nat} {fn : Addr} {fd : FuncData} {ps ks : List Str} {op : List D → Option D} {x : Str}
theorem pd_cal (C : Cal X.prog X.w X.K X.mg X.base x k ps ar op fn fd) (b : Binds X.K fd ps []) (hr : Room k' X.A) (hk : k ≤ k') (hg : Gl X x) (ha : PA X (e :: es) (tDA X.K fa)) (hdb : (x == ("__debug__" : Str)) = false := by decide)
    (he : starEach (e :: es) X.env = (false, eval e X.env) :: starEach es X.env := by rfl) (hpl : (backTo pos (starEach es X.env)).any (·.1) = false := by rfl) : PE X (.Call (.Name x p) (e :: es) [] pos) (tD X.K (eCall (callD ar [] op) fa)) :=
  pd_call C.ok (hr.mono hk) hg C.mg C.kp b .nil (fun H => .nil) ha hdb he hpl
theorem pd_calD {dvs : List V} {dds : List D} {dv : List Value} (C : Cal X.prog X.w X.K X.mg X.base x k ps ar op fn fd) (b : Binds X.K fd ps dv) (hd : Vals dvs dv) (hdd : ∀ H, RepL X.K H dds dvs) (hr : Room k' X.A) (hk : k ≤ k') (hg : Gl X x) (ha : PA X (e :: es) (tDA X.K fa)) (hdb : (x == ("__debug__" : Str)) = false := by decide)
    (he : starEach (e :: es) X.env = (false, eval e X.env) :: starEach es X.env := by rfl) (hpl : (backTo pos (starEach es X.env)).any (·.1) = false := by rfl) : PE X (.Call (.Name x p) (e :: es) [] pos) (tD X.K (eCall (callD ar dds op) fa)) :=
  pd_call C.ok (hr.mono hk) hg C.mg C.kp b hd hdd ha hdb he hpl
theorem pd_calK (C : Cal X.prog X.w X.K X.mg X.base x k ps ar op fn fd) {n m : Nat} (b : KB X.K fd ps ks n m) (hr : Room k' X.A) (hk : k ≤ k') (hg : Gl X x) (ha : PA X (e :: es) (tDA X.K fa)) (hkw : PK X kws (tDA X.K fk)) (hall : (backToKw pos (keywordEach kws X.env)).all (·.1.isSome) = true := by rfl) (hks : (backToKw pos (keywordEach kws X.env)).filterMap (·.1) = ks := by rfl)
    (hdb : (x == ("__debug__" : Str)) = false := by decide) (he : starEach (e :: es) X.env = (false, eval e X.env) :: starEach es X.env := by rfl)
    (hpl : ((backTo pos (starEach (e :: es) X.env)).any (·.1) || (backToKw pos (keywordEach kws X.env)).any (·.1.isNone)) = false := by rfl) : PE X (.Call (.Name x p) (e :: es) kws pos) (tD X.K (eCall (callK ar op) (aApp n m fa fk))) :=
  pd_callK C.ok (hr.mono hk) hg C.mg C.kp b ha hkw hall hks hdb he hpl
/-- a whole number that stands at the module's top -/
theorem pd_gint {i : Int} (hg : Gl X x) (hm : ∃ t, X.mg x = some (.int i t)) (hdb : (x == ("__debug__" : Str)) = false := by decide) : PE X (.Name x p) (tD X.K (eC (.int i))) := by
  obtain ⟨t, hm⟩ := hm
  exact pd_const (pe_glob hg hm (v := .int i) ⟨t, rfl⟩ hdb) fun _ => rep_int.mpr rfl
/-- - e -/
def oNeg : D → Option D
  | .int i => some (.int (-i))
  | _ => none
theorem pd_neg {f : FE} (ha : PE X e (tD X.K f)) : PE X (.UnaryOp .USub e pos) (tD X.K (eUn oNeg f)) := by
  intro pins s σ H Q I h
  obtain ⟨F0, H0, F, ρ, d, r, hf, q⟩ := h
  obtain ⟨d', h1, h2⟩ := Option.bind_eq_some_iff.mp hf
  cases d' <;> simp only [oNeg] at h2 <;> first | (cases h2; done) | skip
  cases h2
  refine UnaryOp_ (thn (ha pins s σ H (fun v H' => ∃ F', Grow F H F' H' ∧ Rep X.K F' (.int _) v) I ⟨F0, H0, F, ρ, _, r, h1, fun v F' H' g' r' => ⟨F', g', r'⟩⟩) fun v s1 ⟨x, H1, I1, r1, F', g', r'⟩ => ?_)
  cases rep_int.mp r'
  obtain ⟨t, rfl⟩ := r1
  exact neg_int ⟨.int _, H1, I1.tok _, ⟨_, rfl⟩, q _ F' H1 g' (rep_int.mpr rfl)⟩
end
/-! ### a def of the text, with defaults (dV) -/
structure Fun2 (K : Frag) (x qual : Str) (st : Stmt) (dV : Value) (f : Addr) (fd : FuncData) : Prop where
  ex : ∃ (oc : Value) (od : Option Addr) (kV doc pm : Value) (an : Option Addr) (cdv ct : Value) (osl : Array (Option Value)),
    fd = PySem.W.fnOf x qual (defArgs st) (defBody st) (defScope st) dV kV doc pm an cdv ct ∧ K.lookup f = some ⟨oc, od, .func fd, osl⟩ ∧ PySem.W.codeIn K cdv qual = true
  kp : PySem.W.keepIn K (.ref f) = true
section
variable {P : Program} {w : World} {K : Frag} {mg : Str → Option Value} {base : Heap} {x qual : Str} {st : Stmt} {dV : Value} {f : Addr} {fd : FuncData} {N ps : List Str}
theorem Fun2.ok {k : Nat} {u : FS} (F : Fun2 K x qual st dV f fd) (S : FnScope N ps (defScope st))
    (hb : ∀ (cdv : Value) (A : Around) (outer : List Env) (s : Shared) (H : Hp) (E : XK), Room k (A.deeper (envOfC qual (defScope st) s.heap.objs.size f cdv)) → PSs (cxOf CX0 P w K mg base N qual (defScope st) f cdv A outer s H E).nox (defBody st) (tDS K u)) :
    FnOk P w K mg base CX0 (k + 1) f fd ps (spD K ps.length (runFn N.length u)) := by
  obtain ⟨oc, od, kV, doc, pm, an, cdv, ct, osl, rfl, lk, hcd⟩ := F.ex
  exact fn_ok lk hcd S fun A outer s H E hr => hb cdv A outer s H E hr
theorem Fun2.okn {k n ar k1 : Nat} {u : FS} (F : Fun2 K x qual st dV f fd) (S : FnScope N ps (defScope st)) (hn : N.length = n) (ha : ps.length = ar) (hk : k + 1 = k1)
    (hb : ∀ (cdv : Value) (A : Around) (outer : List Env) (s : Shared) (H : Hp) (E : XK), Room k (A.deeper (envOfC qual (defScope st) s.heap.objs.size f cdv)) → PSs (cxOf CX0 P w K mg base N qual (defScope st) f cdv A outer s H E).nox (defBody st) (tDS K u)) :
    FnOk P w K mg base CX0 k1 f fd ps (spD K ar (runFn n u)) := by
  subst hn ha hk
  exact F.ok S hb
theorem fun2_mk {oc : Value} {od an : Option Addr} {osl : Array (Option Value)} {kV doc pm cdv ct : Value} (l : K.lookup f = some ⟨oc, od, .func (PySem.W.fnOf x qual (defArgs st) (defBody st) (defScope st) dV kV doc pm an cdv ct), osl⟩)
    (c : PySem.W.codeIn K cdv qual = true) (k : PySem.W.keepIn K (.ref f) = true) : Fun2 K x qual st dV f (PySem.W.fnOf x qual (defArgs st) (defBody st) (defScope st) dV kV doc pm an cdv ct) := ⟨⟨oc, od, kV, doc, pm, an, cdv, ct, osl, rfl, l, c⟩, k⟩
/-- how its arguments bind -/
theorem Fun2.bindsTo (F : Fun2 K x qual st dV f fd) {P : FuncData → Prop} (h : ∀ (kV doc pm : Value) (an : Option Addr) (cdv ct : Value), P (PySem.W.fnOf x qual (defArgs st) (defBody st) (defScope st) dV kV doc pm an cdv ct)) : P fd := by
  obtain ⟨oc, od, kV, doc, pm, an, cdv, ct, osl, rfl, lk, hcd⟩ := F.ex
  exact h kV doc pm an cdv ct
end
/-! ### the law's end -/
def spLaw (K : Frag) : Sp := fun vs H Q _ => ∃ (a : Addr) (ns : List Int) (F : Hp), vs = [.ref a] ∧ SameT F H ∧ SqL K F a (ns.map V.int) ∧ ns.length ≤ 63 ∧ ∀ H', Q (.bl true) H'
theorem law_of {P : Program} {w : World} {K : Frag} {mg : Str → Option Value} {base : Heap} {k : Nat} {f : Addr} {fd : FuncData} {x : Str} {op : List D → Option D} (F : FnOk P w K mg base CX0 k f fd [x] (spD K 1 op)) (h : ∀ ns : List Int, ns.length ≤ 63 → op [.lst (ns.map .int)] = some (.bl true)) :
    FnOk P w K mg base CX0 k f fd [x] (spLaw K) := F.imp fun vs H Q E ⟨a, ns, Fz, e, fz, hS, hl, q⟩ => by
  subst e
  exact ⟨Fz, [.lst (ns.map .int)], .bl true, fz, .cons (rep_lst.mpr ⟨a, _, rfl, hS, RepL.ints.mpr rfl⟩) .nil, rfl, h ns hl, fun v F' H' g' r' => by rw [rep_bl.mp r']; exact q H'⟩
theorem walk63 (ht : Lam.tab = []) {l : PySem.W.OpenLaw} {k : Nat} {x : Str} {q : Program} {loose : List Str} {XP : (Str → Option Value) → Heap → Prop} {YP : World → Heap → Prop} {d : DefRec} {K : Params → Frag} (hn : l.most = some 63) (hdf : d.params.defaults = []) (hk : Room k callerA)
    (hY : ∀ (w : World) (h : Heap), YP w h → (K w.params).In h)
    (F : ∀ (w : World) (mg : Str → Option Value) (fa : Addr) (h : Heap), (K w.params).In h → h.Ns mainGlobals mg → mg d.name = some (.ref fa) →
      ∃ fd : FuncData, (∀ (s : Shared) (u : Value), BindsTo s fd ⟨[u], []⟩ [(x, u)]) ∧ ∀ base : Heap, (K w.params).In base → base.Ns mainGlobals mg → FnOk l.prog w (K w.params) mg base CX0 k fa fd [x] (spLaw (K w.params))) :
    PySem.W.WalkO q loose XP YP l.row.toRowW d [] (fun f vs => PySem.call f vs) :=
  L2.walk_of (n := 63) (k := k) (x := x) (CX := fun _ => CX0) (sp := fun w => spLaw (K w.params)) hn (by decide) hdf hk hY F (fun _ H a ns hl _ hS => ⟨a, ns, H, rfl, ⟨.refl _, fun p hp => (by rw [ht] at hp; cases hp), fun p hp => (by rw [ht] at hp; cases hp)⟩, hS, hl, fun _ => rfl⟩) fun _ _ _ _ _ z => z
end DL

set_option maxRecDepth 100000
set_option maxHeartbeats 4000000
namespace DL
open PySem PySem.Spec PyProof.Rows L2
variable [Lam]
section
variable {X : Cx} {pos : Pos} {f g : FE} {a b : Expr}
abbrev oLt' := oLt
theorem od_lt' : OpR X (compareOp .Lt) (rD X.K oLt') := od_lt
end
end DL

set_option maxRecDepth 100000
set_option maxHeartbeats 4000000
namespace DL
open PySem PySem.Spec PyProof.Rows L2
variable [Lam]
section
variable {X : Cx} {pos : Pos} {f g k : FE} {a b c : Expr}

/-! ### {} -/
theorem inv_big {pins : List (Addr × Obj)} {σ : St} {H : Hp} {s : Shared} (I : Inv X pins σ H s) : sysModules < s.heap.objs.size :=
  Nat.lt_trans (by decide) (I.mod.glob.keeps I.bk).lt
def eDct : FE := fun _ => some (.dct [] [])
theorem pd_dct : PE X (.Dict [] [] pos) (tD X.K eDct) := fun pins s σ H Q I ⟨F0, H0, F, ρ, d, r, hf, q⟩ => by
  cases hf
  refine wpAny_Dict_empty ⟨.ref s.heap.objs.size, _, I.laid (a := s.heap.objs.size) (o := .dK []) (t' := s.toks) (fun _ _ z => Heap.get?_push_of_some _ z) (Nat.le_refl _)
    ⟨Nat.zero_le _, beq_eq_false_iff_ne.mpr (Ne.symm (Nat.ne_of_lt (inv_big I))), [], .nil, Heap.DictOf.new s.heap⟩, rfl, ?_⟩
  have hn : H s.heap.objs.size = none := I.hok.fresh (Nat.le_refl _)
  exact q _ _ _ (Grow.new r.fh hn) (rep_dct.mpr ⟨_, [], rfl, upd_same, rfl, .nil⟩)

/-! ### a < b < c -/
def eChain (o1 o2 : D → D → Option D) (a b c : FE) : FE := fun ρ => (a ρ).bind fun x => (b ρ).bind fun y => (o1 x y).bind fun r => (isB r).bind fun q => if q then (c ρ).bind fun z => o2 y z else some (.bl false)
def bChain (o1 o2 : D → D → Option D) (a b c : FE) : FT := fun ρ => (eChain o1 o2 a b c ρ).bind isB
theorem chain_D {o1 o2 : D → D → Option D} {σ : St} {H : Hp} {Q : VK} (h : tD X.K (eChain o1 o2 f g k) σ H Q) : tChain (rD X.K o1) (rD X.K o2) (tD X.K f) (tD X.K g) (tD X.K k) σ H Q := by
  obtain ⟨F0, H0, F, ρ, d, r, hf, q⟩ := h
  obtain ⟨x, e1, hf1⟩ := Option.bind_eq_some_iff.mp hf
  obtain ⟨y, e2, hf2⟩ := Option.bind_eq_some_iff.mp hf1
  obtain ⟨z, e3, hf3⟩ := Option.bind_eq_some_iff.mp hf2
  obtain ⟨kq, e4, hf4⟩ := Option.bind_eq_some_iff.mp hf3
  refine ⟨F0, H0, F, ρ, x, r, e1, fun v F1 H1 g1 r1 => ⟨F0, H0, F1, ρ, y, r.grow g1, e2, fun u F2 H2 g2 r2 => ⟨F2, x, y, z, g2.fh, r1.mono g2.ff, r2, e3, fun w F3 H3 g3 r3 => ?_⟩⟩⟩
  have ez := isB_some e4
  subst ez
  refine ⟨kq, rep_bl.mp r3, ?_⟩
  cases kq with
  | false =>
    rw [if_neg Bool.false_ne_true] at hf4 ⊢
    cases hf4
    exact q _ F3 H3 (g1.trans (g2.trans g3)) (rep_bl.mpr rfl)
  | true =>
    rw [if_pos rfl] at hf4 ⊢
    obtain ⟨zz, e5, e6⟩ := Option.bind_eq_some_iff.mp hf4
    exact ⟨F0, H0, F3, ρ, zz, r.grow (g1.trans (g2.trans g3)), e5, fun w' F4 H4 g4 r4 => ⟨F4, y, zz, d, g4.fh, (r2.mono g3.ff).mono g4.ff, r4, e6, fun w5 F5 H5 g5 r5 => q w5 F5 H5 ((g1.trans (g2.trans g3)).trans (g4.trans g5)) r5⟩⟩
theorem pd_chain {op op' : CmpOp} {o1 o2 : D → D → Option D} (h1 : OpR X (compareOp op) (rD X.K o1)) (h2 : OpR X (compareOp op') (rD X.K o2)) (ha : PE X a (tD X.K f)) (hb : PE X b (tD X.K g)) (hc : PE X c (tD X.K k))
    (hm : lastMarks [op, op'] [b, c] = false := by with_unfolding_all rfl) : PE X (.Compare a [op, op'] [b, c] pos) (tD X.K (eChain o1 o2 f g k)) :=
  pe_imp (pe_chain h1 h2 ha hb hc hm) fun σ H Q h => chain_D h
theorem td_chain {op op' : CmpOp} {o1 o2 : D → D → Option D} (h1 : OpR X (compareOp op) (rD X.K o1)) (h2 : OpR X (compareOp op') (rD X.K o2)) (ha : PE X a (tD X.K f)) (hb : PE X b (tD X.K g)) (hc : PE X c (tD X.K k))
    (hm : lastMarks [op, op'] [b, c] = false := by with_unfolding_all rfl) : PT X (.Compare a [op, op'] [b, c] pos) (tDT X.K (bChain o1 o2 f g k)) :=
  pt_imp (pt_chain h1 h2 ha hb hc hm) fun σ H Q ⟨F0, H0, F, ρ, d, r, hf, q⟩ => by
    obtain ⟨x, e1, e2⟩ := Option.bind_eq_some_iff.mp hf
    have ex := isB_some e2
    subst ex
    refine chain_D ⟨F0, H0, F, ρ, _, r, e1, fun v F1 H1 g1 r1 => ⟨d, rep_bl.mp r1, q F1 H1 g1⟩⟩

/-! ### is -/
def sameC : D → D → Bool
  | .non, .non => true
  | .bl a, .bl b => a == b
  | _, _ => false
def oIs (neg : Bool) : D → D → Option D
  | x, .non => some (.bl (if neg then !sameC x .non else sameC x .non))
  | x, .bl b => some (.bl (if neg then !sameC x (.bl b) else sameC x (.bl b)))
  | _, _ => none
theorem is_bl {M : Model} {A : Around} {E : Value → Shared → Prop} {s : Shared} {Q : Value → Shared → Prop} {v : Value} {c : Bool} (hv : ∀ id, v ≠ .builtin id) (h : Q (.bool (v == .bool c)) s) : wpAny M A (compareOp .Is v (.bool c)) Q E s := by
  cases v <;> first | exact wpAny_pure h | exact absurd rfl (hv _)
theorem isnot_bl {M : Model} {A : Around} {E : Value → Shared → Prop} {s : Shared} {Q : Value → Shared → Prop} {v : Value} {c : Bool} (hv : ∀ id, v ≠ .builtin id) (h : Q (.bool (!(v == .bool c))) s) : wpAny M A (compareOp .IsNot v (.bool c)) Q E s := by
  cases v <;> first | exact wpAny_pure h | exact absurd rfl (hv _)
theorem no_blt {K : Frag} {F : Hp} {d : D} {x : V} {v : Value} (r : Rep K F d x) (rv : RelV x v) : ∀ id, v ≠ .builtin id := by
  intro id
  cases d with
  | non => cases rep_non.mp r; cases rv; intro z; cases z
  | bl b => cases rep_bl.mp r; cases rv; intro z; cases z
  | int i => cases rep_int.mp r; obtain ⟨t, rfl⟩ := rv; intro z; cases z
  | str i => cases rep_str.mp r; obtain ⟨t, rfl⟩ := rv; intro z; cases z
  | tup ds => obtain ⟨p, xs, rfl, _⟩ := rep_tup.mp r; cases rv; intro z; cases z
  | lst ds => obtain ⟨p, xs, rfl, _⟩ := rep_lst.mp r; cases rv; intro z; cases z
  | dct ks vs => obtain ⟨p, xs, rfl, _⟩ := rep_dct.mp r; cases rv; intro z; cases z
  | dtt ks vs => obtain ⟨p, xs, ys, rfl, _⟩ := rep_dtt.mp r; cases rv; intro z; cases z
  | obj C => obtain ⟨p, dx, _, rfl, _⟩ := rep_obj.mp r; cases rv; intro z; cases z
  | exc C => obtain ⟨p, _, rfl, _⟩ := rep_exc.mp r; cases rv; intro z; cases z
theorem same_non {K : Frag} {F : Hp} {d : D} {x : V} {v : Value} (r : Rep K F d x) (rv : RelV x v) : (v == Value.none) = sameC d .non := by
  cases d with
  | non => cases rep_non.mp r; cases rv; rfl
  | bl b => cases rep_bl.mp r; cases rv; rfl
  | int i => cases rep_int.mp r; obtain ⟨t, rfl⟩ := rv; rfl
  | str i => cases rep_str.mp r; obtain ⟨t, rfl⟩ := rv; rfl
  | tup ds => obtain ⟨p, xs, rfl, _⟩ := rep_tup.mp r; cases rv; rfl
  | lst ds => obtain ⟨p, xs, rfl, _⟩ := rep_lst.mp r; cases rv; rfl
  | dct ks vs => obtain ⟨p, xs, rfl, _⟩ := rep_dct.mp r; cases rv; rfl
  | dtt ks vs => obtain ⟨p, xs, ys, rfl, _⟩ := rep_dtt.mp r; cases rv; rfl
  | obj C => obtain ⟨p, dx, _, rfl, _⟩ := rep_obj.mp r; cases rv; rfl
  | exc C => obtain ⟨p, _, rfl, _⟩ := rep_exc.mp r; cases rv; rfl
theorem same_bl {K : Frag} {F : Hp} {d : D} {x : V} {v : Value} {c : Bool} (r : Rep K F d x) (rv : RelV x v) : (v == Value.bool c) = sameC d (.bl c) := by
  cases d with
  | non => cases rep_non.mp r; cases rv; rfl
  | bl b => cases rep_bl.mp r; cases rv; cases b <;> cases c <;> rfl
  | int i => cases rep_int.mp r; obtain ⟨t, rfl⟩ := rv; rfl
  | str i => cases rep_str.mp r; obtain ⟨t, rfl⟩ := rv; rfl
  | tup ds => obtain ⟨p, xs, rfl, _⟩ := rep_tup.mp r; cases rv; rfl
  | lst ds => obtain ⟨p, xs, rfl, _⟩ := rep_lst.mp r; cases rv; rfl
  | dct ks vs => obtain ⟨p, xs, rfl, _⟩ := rep_dct.mp r; cases rv; rfl
  | dtt ks vs => obtain ⟨p, xs, ys, rfl, _⟩ := rep_dtt.mp r; cases rv; rfl
  | obj C => obtain ⟨p, dx, _, rfl, _⟩ := rep_obj.mp r; cases rv; rfl
  | exc C => obtain ⟨p, _, rfl, _⟩ := rep_exc.mp r; cases rv; rfl
theorem od_is (_hc : X.calm = true) : OpR X (compareOp .Is) (rD X.K (oIs false)) := fun pins s σ H x y v u Q I rx ry ⟨F, d1, d2, d, q1, q2, q3, q4, q5⟩ => by
  cases d2 <;> simp only [oIs] at q4 <;> first | (cases q4; done) | skip
  · cases rep_non.mp q3
    cases ry
    refine is_none_gen ⟨.bl _, H, I, rfl, ?_⟩
    rw [same_non q2 rx]
    cases q4
    exact q5 _ F H (.refl q1) (rep_bl.mpr rfl)
  · cases rep_bl.mp q3
    cases ry
    refine is_bl (no_blt q2 rx) ⟨.bl _, H, I, rfl, ?_⟩
    rw [same_bl q2 rx]
    cases q4
    exact q5 _ F H (.refl q1) (rep_bl.mpr rfl)
theorem od_isnot (_hc : X.calm = true) : OpR X (compareOp .IsNot) (rD X.K (oIs true)) := fun pins s σ H x y v u Q I rx ry ⟨F, d1, d2, d, q1, q2, q3, q4, q5⟩ => by
  cases d2 <;> simp only [oIs] at q4 <;> first | (cases q4; done) | skip
  · cases rep_non.mp q3
    cases ry
    refine isnot_none_gen ⟨.bl _, H, I, rfl, ?_⟩
    rw [same_non q2 rx]
    cases q4
    exact q5 _ F H (.refl q1) (rep_bl.mpr rfl)
  · cases rep_bl.mp q3
    cases ry
    refine isnot_bl (no_blt q2 rx) ⟨.bl _, H, I, rfl, ?_⟩
    rw [same_bl q2 rx]
    cases q4
    exact q5 _ F H (.refl q1) (rep_bl.mpr rfl)

/-! ### x[e], x a list of the frame's own -/
def eIxO (i : Nat) (g : FE) : FE := fun ρ => (owAt i ρ).bind fun ds => (g ρ).bind fun k => match k with
  | .int j => atI ds j
  | _ => none
theorem pd_ixO {i : Nat} {x : Str} {px : Pos} (hv : PE X (.Name x px) (tVar i)) (hb : PE X b (tD X.K g)) (hs : PlainIx b := by intro _ _; rfl) : PE X (.Subscript (.Name x px) b pos) (tD X.K (eIxO i g)) := pe_imp (pe_ix ix_seq hv hb hs) fun σ H Q ⟨F0, H0, F, ρ, d, r, hf, q⟩ => by
  obtain ⟨ds, h1, hf⟩ := Option.bind_eq_some_iff.mp hf
  obtain ⟨kd, h2, h3⟩ := Option.bind_eq_some_iff.mp hf
  have h1 := owAt_some h1
  obtain ⟨p, xs, e1, e2, e3, e4, e5⟩ := r.ow i ds h1
  refine ⟨.ref p, e1, F0, H0, F, ρ, kd, r, h2, fun v F' H' g' r' => ?_⟩
  split at h3
  · obtain ⟨y, z3, z4⟩ := atI_rep (e5.mono g'.ff) h3
    exact .inl ⟨p, xs, _, y, rfl, rep_int.mp r', SqL.of (g'.hh.lst _ _ e2), z3, q y F' H' g' z4⟩
  · cases h3
end
end DL

set_option maxRecDepth 100000
set_option maxHeartbeats 4000000
namespace DL
open PySem PySem.Spec PyProof.Rows L2
variable [Lam]
/-! ### t * n -/
theorem noFill_tup_mul : fillsNumberSlot (.type "tuple") "mul" = pure false :=
  PySem.fillsNumberSlot_seq (id := "tuple.__mul__") (r := some (.builtin "tuple.__rmul__")) F.slot_tuple_mul.lookup (by decide +kernel) F.slot_tuple_rmul.lookup (by decide +kernel)
theorem repeat_tup : seqRepeat? (.type "tuple") = pure (some (.builtin "tuple.__mul__")) := by
  unfold seqRepeat?
  rw [PySem.seqSlot_of (T := "tuple") (name := "__mul__") F.slot_tuple_mul.lookup (by decide +kernel), PySem.seqSlot_of (T := "tuple") (name := "__rmul__") F.slot_tuple_rmul.lookup (by decide +kernel)]
  rfl
theorem rmul_tup (i : Int) (t : Tok) (l : Addr) (xs : Array Value) (n : Nat) (dd : Option Addr) (sl : Array (Option Value)) :
    Meets (Builtin.«int.__rmul__» ⟨[.int i t, .ref l], []⟩) (fun _ R s => s.heap.get? l = some { cls := .type "tuple", dict := dd, data := .seq xs n, slots := sl } ∧ R (.ok (.ret Value.notImplemented)) s) :=
  .of_wp fun prog w A R s h => by
    obtain ⟨hp, g, d, tk, os⟩ := s
    obtain ⟨hl, h⟩ := h
    wp_walk
    exact ⟨_, rfl, h⟩
/-- one time, or the empty tuple: the same -/
theorem mul_tup_same (i : Int) (t : Tok) (l : Addr) (xs : Array Value) (n : Nat) (dd : Option Addr) (sl : Array (Option Value)) (h0 : ¬ (decide (i < -(2 ^ 63)) || decide (i ≥ 2 ^ 63)) = true) (h1 : (xs.isEmpty || i == 1) = true) :
    Meets (Builtin.«tuple.__mul__» ⟨[.ref l, .int i t], []⟩) (fun _ R s => s.heap.get? l = some { cls := .type "tuple", dict := dd, data := .seq xs n, slots := sl } ∧ R (.ok (.ret (.ref l))) s) :=
  .of_wp fun prog w A R s h => by
    obtain ⟨hp, g, d, tk, os⟩ := s
    obtain ⟨hl, h⟩ := h
    have f1 := AutoSeq1.idx_int
    have f2 := AutoSeq1.sub_tuple_tuple
    wp_walk using AutoSeq1.wpAny_loadPart' hl
    refine wpAny_ite_false (decide_eq_false h0) ?_
    wp_walk using AutoSeq1.wpAny_loadPart' hl
    exact ⟨_, rfl, h⟩
theorem mul_tup_none (i : Int) (t : Tok) (l : Addr) (xs : Array Value) (n : Nat) (dd : Option Addr) (sl : Array (Option Value)) (h0 : ¬ (decide (i < -(2 ^ 63)) || decide (i ≥ 2 ^ 63)) = true) (h1 : ¬ (xs.isEmpty || i == 1) = true) (h2 : (decide (i ≤ 0) || xs.isEmpty) = true) :
    Meets (Builtin.«tuple.__mul__» ⟨[.ref l, .int i t], []⟩) (fun _ R s => s.heap.get? l = some { cls := .type "tuple", dict := dd, data := .seq xs n, slots := sl } ∧ R (.ok (.ret (.ref s.heap.objs.size))) { s with heap := s.heap.push { cls := .type "tuple", data := .seq #[] } }) :=
  .of_wp fun prog w A R s h => by
    obtain ⟨hp, g, d, tk, os⟩ := s
    obtain ⟨hl, h⟩ := h
    have f1 := AutoSeq1.idx_int
    have f2 := AutoSeq1.sub_tuple_tuple
    wp_walk using AutoSeq1.wpAny_loadPart' hl
    refine wpAny_ite_false (decide_eq_false h0) ?_
    wp_walk using AutoSeq1.wpAny_loadPart' hl
    exact ⟨_, rfl, h⟩
theorem mul_tup_many (i : Int) (t : Tok) (l : Addr) (xs : Array Value) (n : Nat) (dd : Option Addr) (sl : Array (Option Value)) (h0 : ¬ (decide (i < -(2 ^ 63)) || decide (i ≥ 2 ^ 63)) = true) (h1 : ¬ (xs.isEmpty || i == 1) = true) (h2 : ¬ (decide (i ≤ 0) || xs.isEmpty) = true)
    (h3 : ¬ ((xs.size : Int) * i > (2 ^ 63 - 1) / 8)) (h4 : ¬ Builtin.Tuple.tupleTooMany ((xs.size : Int) * i) = true) (h5 : ((List.replicate i.toNat xs).foldl (· ++ ·) #[]).size ≤ sizeLine) :
    Meets (Builtin.«tuple.__mul__» ⟨[.ref l, .int i t], []⟩) (fun _ R s => s.heap.get? l = some { cls := .type "tuple", dict := dd, data := .seq xs n, slots := sl } ∧ R (.ok (.ret (.ref s.heap.objs.size))) { s with heap := s.heap.push { cls := .type "tuple", data := .seq ((List.replicate i.toNat xs).foldl (· ++ ·) #[]) } }) :=
  .of_wp fun prog w A R s h => by
    obtain ⟨hp, g, d, tk, os⟩ := s
    obtain ⟨hl, h⟩ := h
    have f1 := AutoSeq1.idx_int
    have f2 := AutoSeq1.sub_tuple_tuple
    wp_walk using AutoSeq1.wpAny_loadPart' hl
    refine wpAny_ite_false (decide_eq_false h0) ?_
    wp_walk using AutoSeq1.wpAny_loadPart' hl
    refine wpAny_ite_false (decide_eq_false h3) ?_
    wp_walk using AutoSeq1.wpAny_loadPart' hl
    exact ⟨_, rfl, h⟩
theorem fold_rep (xs : Array Value) : ∀ (n : Nat) (acc : Array Value), ((List.replicate n xs).foldl (· ++ ·) acc).toList = acc.toList ++ (List.replicate n xs.toList).flatten
  | 0, acc => by simp
  | n + 1, acc => by
    rw [List.replicate_succ, List.foldl_cons, fold_rep xs n (acc ++ xs), List.replicate_succ, List.flatten_cons, Array.toList_append, List.append_assoc]
theorem fold_rep0 (xs : List Value) (n : Nat) : (List.replicate n xs.toArray).foldl (· ++ ·) #[] = (List.replicate n xs).flatten.toArray := by
  apply Array.toList_inj.mp
  rw [fold_rep]; simp
section
variable {prog : Program} {w : World} {A : Around} {E : Value → Shared → Prop} {s : Shared}
theorem mul_tup {t : Addr} {vs : List Value} {i : Int} {u : Tok} {Q : Value → Shared → Prop} (ht : IsTup s.heap t vs.toArray) (h0 : -(2 ^ 62) < i) (h1 : i < 2 ^ 62) (hz : vs.length * i.toNat ≤ 1000000)
    (q1 : (vs = [] ∨ i = 1) → Q (.ref t) s) (q2 : ¬ (vs = [] ∨ i = 1) → Q (.ref s.heap.objs.size) { s with heap := s.heap.push { cls := .type "tuple", data := .seq (List.replicate i.toNat vs).flatten.toArray } }) :
    wpAny (model prog w) A (binaryOp .Mult (.ref t) (.int i u)) Q E s := by
  obtain ⟨⟨cls, dd, data, sl⟩, ho, hc, n, hd⟩ := id ht
  simp only at hc hd
  subst hc hd
  have ty : s.TypeIs (.ref t) "tuple" := ⟨_, ho, rfl⟩
  have b0 : ¬ (decide (i < -(2 ^ 63)) || decide (i ≥ 2 ^ 63)) = true := by
    simp only [Bool.or_eq_true, decide_eq_true_eq, not_or]
    constructor <;> lia
  refine wpAny_binaryOp_repeat_ref (T := "tuple") (U := "int") (by decide) ty (fun s' => typeIs_int s' i u) noFill_tup_mul F.fills_int_mul F.slot_int_rmul repeat_tup F.slot_int_index.lookup
    (call_meets F.slot_int_rmul (typeIs_int s i u) F.entry_int_rmul (F.args_int_rmul_2 _ _) (rmul_tup i u t vs.toArray n dd sl) ⟨ho, rfl, ty, ?_⟩)
  have em : vs.toArray.isEmpty = true ↔ vs = [] := by simp
  by_cases c1 : (vs.toArray.isEmpty || i == 1) = true
  · have c1' : vs = [] ∨ i = 1 := by simpa using c1
    exact call_meets F.slot_tuple_mul ty F.entry_tuple_mul (F.args_tuple_mul_2 _ _) (mul_tup_same i u t vs.toArray n dd sl b0 c1) ⟨ho, q1 c1'⟩
  · have c1' : ¬ (vs = [] ∨ i = 1) := by simpa using c1
    have q := q2 c1'
    by_cases c2 : (decide (i ≤ 0) || vs.toArray.isEmpty) = true
    · have i0 : i ≤ 0 := by
        rcases Bool.or_eq_true _ _ ▸ c2 with z | z
        · exact of_decide_eq_true z
        · exact absurd (.inl (em.mp z)) c1'
      have e : (List.replicate i.toNat vs).flatten.toArray = #[] := by
        rw [show i.toNat = 0 by lia]; rfl
      rw [e] at q
      exact call_meets F.slot_tuple_mul ty F.entry_tuple_mul (F.args_tuple_mul_2 _ _) (mul_tup_none i u t vs.toArray n dd sl b0 c1 c2) ⟨ho, q⟩
    · have c2' : 0 < i := by
        have : ¬ i ≤ 0 := fun z => c2 (by rw [decide_eq_true z]; rfl)
        lia
      have ei : (vs.toArray.size : Int) * i = ((vs.length * i.toNat : Nat) : Int) := by
        rw [Int.natCast_mul, Int.toNat_of_nonneg (by lia), List.size_toArray]
      have el : (List.replicate i.toNat vs).flatten.length = vs.length * i.toNat := by
        rw [List.length_flatten, List.map_replicate, List.sum_replicate_nat, Nat.mul_comm]
      rw [← fold_rep0] at q
      refine call_meets F.slot_tuple_mul ty F.entry_tuple_mul (F.args_tuple_mul_2 _ _) (mul_tup_many i u t vs.toArray n dd sl b0 c1 c2 ?_ ?_ ?_) ⟨ho, q⟩
      · rw [ei]; lia
      · rw [ei]
        unfold Builtin.Tuple.tupleTooMany
        have : sizeLine = 16777216 := sizeLine_eq
        rw [this, decide_eq_true_eq]
        lia
      · rw [fold_rep0, List.size_toArray, el]
        exact lim_size hz
end
section
variable {X : Cx}
def oRep : D → D → Option D
  | .tup xs, .int n => if decide (-(2 ^ 62) < n) && decide (n < 2 ^ 62) && decide (xs.length * n.toNat ≤ lim) then some (.tup (List.replicate n.toNat xs).flatten) else none
  | _, _ => none
theorem vals_rep {xs : List V} {us : List Value} (r : Vals xs us) : ∀ n : Nat, Vals (List.replicate n xs).flatten (List.replicate n us).flatten
  | 0 => .nil
  | n + 1 => by rw [List.replicate_succ, List.replicate_succ, List.flatten_cons, List.flatten_cons]; exact r.append (vals_rep r n)
theorem repl_rep {K : Frag} {H : Hp} {ds : List D} {xs : List V} (r : RepL K H ds xs) : ∀ n : Nat, RepL K H (List.replicate n ds).flatten (List.replicate n xs).flatten
  | 0 => .nil
  | n + 1 => by rw [List.replicate_succ, List.replicate_succ, List.flatten_cons, List.flatten_cons]; exact r.append (repl_rep r n)
theorem od_rep : OpR X (binaryOp .Mult) (rD X.K oRep) := fun pins s σ H x y v u Q I rx ry ⟨F, d1, d2, d, q1, q2, q3, q4, q5⟩ => by
  unfold oRep at q4
  split at q4
  · rename_i ds n
    split at q4
    · rename_i hc
      cases q4
      simp only [Bool.and_eq_true, decide_eq_true_eq] at hc
      obtain ⟨⟨c1, c2⟩, c3⟩ := hc
      obtain ⟨p, xs, rfl, z1, z2⟩ := rep_tup.mp q2
      cases rep_int.mp q3
      cases rx
      obtain ⟨t, rfl⟩ := ry
      obtain ⟨its, r1, p1, hz⟩ := I.tuple (same_seqT q1 z1)
      have lx := r1.length
      have ld := z2.length
      refine mul_tup p1 c1 c2 (by rw [← lx, ← ld]; exact c3) (fun hq => ?_) fun hq => ?_
      · have e : (List.replicate n.toNat ds).flatten = ds := by
          rcases hq with z | z
          · have : ds = [] := List.length_eq_zero_iff.mp (by rw [ld, lx, z]; rfl)
            subst this
            simp
          · subst z; simp [List.replicate]
        rw [e] at q5
        exact ⟨.ref p, H, I, rfl, q5 _ F H (.refl q1) q2⟩
      · have hn : H s.heap.objs.size = none := I.hok.fresh (Nat.le_refl _)
        have rr := vals_rep r1 n.toNat
        have el : (List.replicate n.toNat xs).flatten.length = ds.length * n.toNat := by
          rw [List.length_flatten, List.map_replicate, List.sum_replicate_nat, Nat.mul_comm, ld]
        refine ⟨.ref s.heap.objs.size, _, I.laid (t' := s.toks) (o := .tup (List.replicate n.toNat xs).flatten) (fun b ob q => Heap.get?_push_of_some _ q) (Nat.le_refl _) ⟨by rw [el]; exact lim_size c3, _, rr, IsTup.new _ _⟩, rfl, ?_⟩
        have gn := Grow.new (o := .tup (List.replicate n.toNat xs).flatten) q1 hn
        exact q5 _ _ _ gn (rep_tup.mpr ⟨_, _, rfl, SqT.of upd_same, (repl_rep z2 n.toNat).mono gn.ff⟩)
    · cases q4
  · cases q4
def oTimes : D → D → Option D := fun x y => (oMul x y).or (oRep x y)
theorem od_times : OpR X (binaryOp .Mult) (rD X.K oTimes) := opR_or od_mul od_rep
end
end DL

set_option maxRecDepth 100000
set_option maxHeartbeats 4000000
namespace DL
open PySem PySem.Spec PyProof.Rows L2
variable [Lam]
/-! ### enumerate of a tuple or a list -/
section
variable {prog : Program} {w : World} {A : Around} {E : Value → Shared → Prop} {s : Shared}
theorem SI.ty {b : Bool} {h : Heap} {it l : Addr} {k : Nat} (x : SI b h it l k) : it < h.objs.size := let ⟨_, ho, _⟩ := x; Heap.lt_size ho
theorem enumN_item {b : Bool} {e it l : Addr} {i : Nat} {xs : Array Value} {x old : Value} {Q : Value → Shared → Prop} (he : IsEnum s.heap e it i old) (hi : SI b s.heap it l i) (ho : SO b s.heap l xs) (hx : xs[i]? = some x) (hne : e ≠ it)
    (hQ : ∀ h', IsEnumOut h' e it ((i : Int) + 1) x s.heap.objs.size → SI b h' it l (i + 1) → h'.get? s.heap.objs.size = some { cls := .type "tuple", data := .seq #[.int i s.toks, x] } → h'.objs.size = s.heap.objs.size + 1 →
      (∀ c o, c ≠ e → c ≠ it → s.heap.get? c = some o → h'.get? c = some o) → Q (.ref s.heap.objs.size) { s with heap := h', toks := s.toks + 1 }) :
    wpAny (model prog w) A (Builtin.«enumerate.__next__» ⟨[.ref e], []⟩) (fun fin s' => ∃ v, fin = .done (.ret v) ∧ Q v s') E s := by
  obtain ⟨hp, gg, dd, tk, os⟩ := s
  show wpAny _ _ (field (.ref e) 2 >>= _) _ _ _
  refine wpAny_bind (wpAny_field he rfl (x := .ref it) rfl (wpAny_bind (nx_some hi ho hx fun g1 n1 v1 => ?_)))
  have u1 : Heap.SameBut it hp g1 := v1
  have e1 : IsEnum g1 e it i old := (u1.2 e hne).trans he
  show wpAny _ _ (field (.ref e) 3 >>= _) _ _ ⟨g1, gg, dd, tk, os⟩
  refine wpAny_bind (wpAny_field e1 rfl (x := rawInt i) rfl ?_)
  show wpAny _ _ (field (.ref e) 4 >>= _) _ _ ⟨g1, gg, dd, tk, os⟩
  refine wpAny_bind (wpAny_field e1 rfl (x := .none) rfl ?_)
  show wpAny _ _ (mkInt i >>= _) _ _ ⟨g1, gg, dd, tk, os⟩
  refine wpAny_bind (wpAny_mkInt ?_)
  show wpAny _ _ (setField (.ref e) 3 (rawInt ((i : Int) + 1)) >>= _) _ _ ⟨g1, gg, dd, tk + 1, os⟩
  refine wpAny_bind (wpAny_setField_rec e1 (by simp) fun g2 y2 v2 => ?_)
  have u2 : Heap.SameBut e g1 g2 := v2
  have e2 : IsEnum g2 e it ((i : Int) + 1) old := y2
  show wpAny _ _ (setField (.ref e) 4 .none >>= _) _ _ ⟨g2, gg, dd, tk + 1, os⟩
  refine wpAny_bind (wpAny_setField_rec e2 (by simp) fun g3 y3 v3 => ?_)
  have u3 : Heap.SameBut e g2 g3 := v3
  have e3 : IsEnum g3 e it ((i : Int) + 1) old := y3
  show wpAny _ _ (newTuple [.int i tk, x] >>= _) _ _ ⟨g3, gg, dd, tk + 1, os⟩
  refine wpAny_bind (wpAny_newTuple ?_)
  have e4 : IsEnum (g3.push { cls := .type "tuple", data := .seq #[.int i tk, x] }) e it ((i : Int) + 1) old := Heap.get?_push_of_some _ e3
  have z3 : g3.objs.size = hp.objs.size := by rw [u3.1, u2.1, u1.1]
  have ltE : e < hp.objs.size := Heap.lt_size he
  have n3 : SI b g3 it l (i + 1) := (n1.ext u2.extBut hne.symm).ext u3.extBut hne.symm
  have k3 : ∀ c o, c ≠ e → c ≠ it → hp.get? c = some o → g3.get? c = some o := fun c o h1 h2 q => u3.extBut _ _ h1 (u2.extBut _ _ h1 (u1.extBut _ _ h2 q))
  clear v1 v2 v3 y2 y3 e1 e2 u1 u2 u3 n1
  have t4 : (g3.push { cls := .type "tuple", data := .seq #[.int i tk, x] }).get? hp.objs.size = some { cls := .type "tuple", data := .seq #[.int i tk, x] } := by rw [← z3]; exact Heap.get?_push_size _ rfl
  have z4 : (g3.push { cls := .type "tuple", data := .seq #[.int i tk, x] }).objs.size = hp.objs.size + 1 := by rw [Heap.size_push, z3]
  have n4 : SI b (g3.push { cls := .type "tuple", data := .seq #[.int i tk, x] }) it l (i + 1) := let ⟨o, q, r⟩ := n3; ⟨o, Heap.get?_push_of_some _ q, r⟩
  have k4 : ∀ c o, c ≠ e → c ≠ it → hp.get? c = some o → (g3.push { cls := .type "tuple", data := .seq #[.int i tk, x] }).get? c = some o := fun c o h1 h2 q => Heap.get?_push_of_some _ (k3 c o h1 h2 q)
  rw [z3]
  generalize g3.push { cls := .type "tuple", data := .seq #[.int i tk, x] } = g4 at e4 t4 z4 n4 k4 ⊢
  show wpAny _ _ (Builtin.SmallTypes.ownedTupleIsFree (.ref e) >>= _) _ _ ⟨g4, gg, dd, tk + 1, os⟩
  refine wpAny_bind ?_
  unfold Builtin.SmallTypes.ownedTupleIsFree
  refine wpAny_bind (wpAny_field e4 rfl (x := .none) rfl (wpAny_pure ?_))
  simp only [if_true]
  refine wpAny_bind (wpAny_rule (wpAny_bind (wpAny_field e4 rfl (x := old) rfl (wpAny_bind (wpAny_setField_rec e4 (by simp) fun g5 y5 v5 => ?_)))))
  have u5 : Heap.SameBut e g4 g5 := v5
  have e5 : IsEnum g5 e it ((i : Int) + 1) x := y5
  show wpAny _ _ (Builtin.SmallTypes.ownedTupleHandOut (.ref e) (.ref hp.objs.size) >>= _) _ _ ⟨g5, gg, dd, tk + 1, os⟩
  refine wpAny_bind ?_
  unfold Builtin.SmallTypes.ownedTupleHandOut
  refine wpAny_bind (wpAny_setField_rec e5 (by simp) fun g6 y6 v6 => ?_)
  have u6 : Heap.SameBut e g5 g6 := v6
  have e6 : IsEnumOut g6 e it ((i : Int) + 1) x hp.objs.size := y6
  refine wpAny_setField_rec e6 (by simp) fun g7 y7 v7 => ?_
  have u7 : Heap.SameBut e g6 g7 := v7
  have e7 : IsEnumOut g7 e it ((i : Int) + 1) x hp.objs.size := y7
  have up : ∀ {c o}, c ≠ e → g4.get? c = some o → g7.get? c = some o := fun {c o} h q => u7.extBut _ _ h (u6.extBut _ _ h (u5.extBut _ _ h q))
  refine wpAny_bind (wpAny_letGo (wpAny_pure ⟨_, rfl, hQ g7 e7 ?_ (up (Nat.ne_of_gt ltE) t4) ?_ fun c o h1 h2 q => up h1 (k4 c o h1 h2 q)⟩))
  · obtain ⟨o, q, r⟩ := n4
    exact ⟨o, up hne.symm q, r⟩
  · rw [u7.1, u6.1, u5.1, z4]
theorem pyNext_enumN {b : Bool} {e it l : Addr} {i : Nat} {xs : Array Value} {x old : Value} {Q : Option Value → Shared → Prop} (he : IsEnum s.heap e it i old) (hi : SI b s.heap it l i) (ho : SO b s.heap l xs) (hx : xs[i]? = some x) (hne : e ≠ it)
    (hQ : ∀ h', IsEnumOut h' e it ((i : Int) + 1) x s.heap.objs.size → SI b h' it l (i + 1) → h'.get? s.heap.objs.size = some { cls := .type "tuple", data := .seq #[.int i s.toks, x] } → h'.objs.size = s.heap.objs.size + 1 →
      (∀ c o, c ≠ e → c ≠ it → s.heap.get? c = some o → h'.get? c = some o) → Q (some (.ref s.heap.objs.size)) { s with heap := h', toks := s.toks + 1 }) : wpAny (model prog w) A (pyNext (.ref e)) Q E s := by
  have ty : s.TypeIs (.ref e) "enumerate" := ⟨_, he, rfl⟩
  unfold pyNext
  exact wpAny_bind (wpAny_attempt (wpAny_callSpecial?_slot (name := Str.ofString "__next__") ty F.slot_enumerate_next (wpAny_call_entry F.slot_enumerate_next ty F.entry_enumerate_next
    (enumN_item he hi ho hx hne fun h' c1 c2 c3 c4 c5 => wpAny_pure (hQ h' c1 c2 c3 c4 c5)) (F.args_enumerate_next_1 _))))
theorem pyNext_enumNEnd {b : Bool} {e it l : Addr} {i : Nat} {xs : Array Value} {old : Value} {Q : Option Value → Shared → Prop} (hh : A.handled = none) (he : IsEnum s.heap e it i old) (hi : SI b s.heap it l i) (ho : SO b s.heap l xs) (hx : xs[i]? = none)
    (hQ : ∀ h', Heap.ExtBut it s.heap h' → Q none { s with heap := h' }) : wpAny (model prog w) A (pyNext (.ref e)) Q E s := by
  have ty : s.TypeIs (.ref e) "enumerate" := ⟨_, he, rfl⟩
  unfold pyNext
  refine wpAny_bind (wpAny_attempt (wpAny_callSpecial?_slot (name := Str.ofString "__next__") ty F.slot_enumerate_next (wpAny_call_entry F.slot_enumerate_next ty F.entry_enumerate_next ?_ (F.args_enumerate_next_1 _))))
  show wpAny _ _ (field (.ref e) 2 >>= _) _ _ _
  refine wpAny_bind (wpAny_field he rfl (x := .ref it) rfl (wpAny_bind (nx_none hh hi ho hx fun h' y k1 ⟨o, y1, y2⟩ => ?_)))
  exact wpAny_bind (wpAny_isInstance (T := "StopIteration") (b := true) ⟨o, y1, y2⟩ isSubtype_stop (wpAny_pure (hQ _ k1)))
end
theorem meets_enumN (b : Bool) (l : Addr) (xs : Array Value) :
    Meets (Builtin.«enumerate.__new__» ⟨[.type "enumerate", .ref l], []⟩) (fun _ R s => SO b s.heap l xs ∧ R (.ok (.ret (.ref (zh1 b s.heap l).objs.size))) { s with heap := (zh1 b s.heap l).push { cls := .type "enumerate", data := .fields #[.none, .bool false, .ref s.heap.objs.size, rawInt 0, .none, .none] } }) :=
  .of_wp fun prog w A R s h => by
    obtain ⟨hp, gg, dd, tk, os⟩ := s
    obtain ⟨ha, h⟩ := h
    have hsub := sub_enumerate
    have f1 : SO b (Shared.heap ⟨hp, gg, dd, tk, os⟩) l xs := ha
    wp_walk using pyIter_sq f1
    refine wpAny_stack_any fun st => wpAny_pure ?_
    split
    · rename_i c _ _ _ _ _
      cases (c == Value.type "enumerate") <;> (wp_walk using pyIter_sq f1; exact ⟨_, rfl, h⟩)
    · wp_walk using pyIter_sq f1
      exact ⟨_, rfl, h⟩
end DL

set_option maxRecDepth 100000
set_option maxHeartbeats 4000000
namespace DL
open PySem PySem.Spec PyProof.Rows L2
variable [Lam]
/-- the places and items of a sequence -/
def Itn (K : Frag) (b : Bool) (a : Addr) : It :=
  ⟨fun i H => ∃ xs x, Sq b K H a xs ∧ xs[i]? = some x,
   fun i H v H' => ∃ p x, H p = none ∧ (∀ xs, Sq b K H a xs → xs[i]? = some x) ∧ v = .ref p ∧ H' = upd H p (.tup [.int i, x]),
   fun i H => ∃ xs, Sq b K H a xs ∧ xs.length ≤ i⟩
theorem turn_enum {P : Program} {w : World} {K : Frag} {elts : List Expr} {x1} {tp : Pos} {b : Bool} {a e it : Addr} (hne : e ≠ it) :
    Turn P w K (.Tuple elts x1 tp) (Itn K b a) [e, it] e (fun i h => (∃ old, IsEnum h e it (i : Int) old) ∧ SI b h it a i) where
  mem := by simp
  obj := fun i h ⟨⟨old, c1⟩, ⟨o4, c4, _, d4⟩⟩ c hc => by
    simp only [List.mem_cons, List.not_mem_nil, or_false] at hc
    rcases hc with rfl | rfl
    · exact ⟨_, c1, fun v z => by cases z⟩
    · exact ⟨_, c4, fun v z => by rw [d4] at z; cases z⟩
  keep := fun i h h' ⟨⟨old, c1⟩, c4⟩ k => ⟨⟨old, k _ (by simp) _ c1⟩, c4.keep fun o e => k _ (by simp) o e⟩
  item := by
    intro X hP hw hK hc i pins s σ H E I hf st hg
    subst hP hw hK
    obtain ⟨xs, x, q1, hx⟩ := hg
    obtain ⟨its, v1, o1⟩ := sq_so I q1
    obtain ⟨u1, hu1, ru1⟩ := v1.get hx
    obtain ⟨⟨old, c1⟩, c4⟩ := st
    refine pyNext_enumN c1 c4 o1 (x := u1) (by simpa using hu1) hne fun g n1 n2 n3 n4 n5 => ?_
    refine ⟨_, rfl, wpAny_letOwnedTupleGo_enum n1 fun g2 m1 sb => ?_⟩
    have hsz : e < s.heap.objs.size := Heap.lt_size c1
    have hiz : it < s.heap.objs.size := c4.ty
    have kp : ∀ c o, c ∉ [e, it] → s.heap.get? c = some o → g2.get? c = some o := fun c o hc q => by
      simp only [List.mem_cons, List.not_mem_nil, or_false, not_or] at hc
      exact sb.extBut _ _ hc.1 (n5 c o hc.1 hc.2 q)
    have I1 : Inv X pins σ H { s with heap := g2, toks := s.toks + 1 } := turnedL (t' := s.toks + 1) I hf kp
    have fp : FpOk X pins H s.heap.objs.size := I.fpOk (Nat.le_refl _) I.fresh
    have hT : g2.get? s.heap.objs.size = some { cls := .type "tuple", data := .seq #[.int i s.toks, u1] } := sb.extBut _ _ (Nat.ne_of_gt hsz) n3
    have I2 : Inv X pins σ (upd H s.heap.objs.size (.tup [.int i, x])) { s with heap := g2, toks := s.toks + 1 } :=
      adopt I1 fp ⟨by show 2 ≤ sizeLine; decide, [.int i s.toks, u1], .cons ⟨_, rfl⟩ (.cons ru1 .nil), ⟨_, hT, rfl, _, rfl⟩⟩
    refine ⟨.ref s.heap.objs.size, _, I2, rfl, ⟨_, x, I.fresh, fun ws h => ?_, rfl, rfl⟩, ⟨⟨u1, ?_⟩, n2.ext sb.extBut hne.symm⟩, fun c hc => ?_⟩
    · rw [sq_inj I h q1]; exact hx
    · exact m1
    · have hb0 := (hf c hc).1
      have : c ≠ s.heap.objs.size := by
        simp only [List.mem_cons, List.not_mem_nil, or_false] at hc
        rcases hc with rfl | rfl
        · exact Nat.ne_of_lt hsz
        · exact Nat.ne_of_lt hiz
      rw [upd_ne this]; exact hb0
  done := by
    intro X hP hw hK hc i pins s σ H E I hf st hg
    subst hP hw hK
    obtain ⟨xs, q1, hend⟩ := hg
    obtain ⟨its, v1, o1⟩ := sq_so I q1
    obtain ⟨⟨old, c1⟩, c4⟩ := st
    refine pyNext_enumNEnd (I.ok.hd hc) c1 c4 o1 ?_ fun g n5 => ⟨rfl, turnedL (t' := s.toks) I hf fun c o hc q => ?_⟩
    · have l1 := v1.length
      simp; omega
    · simp only [List.mem_cons, List.not_mem_nil, or_false, not_or] at hc
      exact n5 c o hc.2 q
  self := fun A i s Q E st h => let ⟨⟨_, c1⟩, _⟩ := st; wpAny_pyIter_enum c1 h
def enumD (ds : List D) : List D := zipD (rangeD 0 ds.length) ds
theorem enumD_get {ds : List D} {i : Nat} {d : D} (h : (enumD ds)[i]? = some d) : ∃ x, ds[i]? = some x ∧ d = .tup [.int i, x] := by
  unfold enumD zipD rangeD at h
  rw [List.getElem?_zipWith, List.getElem?_map] at h
  cases z2 : ds[i]? with
  | none => rw [z2] at h; simp at h
  | some x =>
    have hi : i < ds.length := (List.getElem?_eq_some_iff.mp z2).1
    rw [z2, List.getElem?_range hi] at h
    cases h
    exact ⟨x, rfl, by simp⟩
theorem enumD_len (ds : List D) : (enumD ds).length = ds.length := by
  unfold enumD zipD rangeD
  simp
theorem itd_enum {K : Frag} {F : Hp} {b : Bool} {a : Addr} {xs : List V} {ds : List D} (h1 : Sq b K F a xs) (r1 : RepL K F ds xs) : ItD K F (enumD ds) (Itn K b a) where
  go := fun i F' H s1 s2 hi => by
    rw [enumD_len] at hi
    exact ⟨xs, xs[i]'(by rw [← r1.length]; exact hi), sq_same (s1.trans s2) h1, by simp⟩
  yld := fun i d F' H x H' s1 s2 hi ⟨p, x1, hp, q1, e1, e2⟩ => by
    subst e1 e2
    obtain ⟨d1, z1, rfl⟩ := enumD_get hi
    obtain ⟨v1, k1, k2⟩ := r1.get z1
    have w1 := q1 xs (sq_same (s1.trans s2) h1)
    rw [k1] at w1; cases w1
    have gn : Grow F' H (upd F' p (.tup [.int i, x1])) (upd H p (.tup [.int i, x1])) := Grow.new s2 hp
    exact ⟨_, gn, rep_tup.mpr ⟨p, _, rfl, SqT.of upd_same, .cons (rep_int.mpr rfl) (.cons ((k2.mono s1).mono gn.ff) .nil)⟩⟩
  stop := fun i F' H s1 s2 hi => by
    rw [enumD_len] at hi
    exact ⟨xs, sq_same (s1.trans s2) h1, by rw [← r1.length]; exact hi⟩
section
variable {X : Cx} {pos : Pos} {elts : List Expr} {x1 : Nat} {tp : Pos}
theorem boot_enum' : bootBuiltins "enumerate" = some (.type "enumerate") := by decide +kernel
theorem pi_enum {a : Expr} {ta : TA} {p : Pos} (hg : Gl X "enumerate") (hm : X.mg "enumerate" = none) (ha : PA X [a] ta) (hs : starEach [a] X.env = [(false, eval a X.env)] := by first | exact star_ns rfl | rfl) :
    PI X (.Tuple elts x1 tp) (.Call (.Name "enumerate" p) [a] [] pos) (fun σ H R => ta σ H fun vs H1 => ∃ b a xs, vs = [.ref a] ∧ Sq b X.K H1 a xs ∧ R (Itn X.K b a) H1) := by
  intro pins s σ H R I h
  refine Call_ (ld_blt I hg hm boot_enum' (PyProof.Rows.callWith_type1 (thn (ha pos pins s σ H _ I h) fun us s1 ⟨vs, H1, I1, r1, q1⟩ => ?_) (by rw [hs]; rfl) (by rfl)))
  obtain ⟨b1, a1, xs, rfl, k1, q⟩ := q1
  obtain ⟨u1, rfl, e1⟩ := vals1 r1
  cases e1
  obtain ⟨its1, v1, o1⟩ := sq_so I1 k1
  refine callType_new F.called_enumerate (by decide) (F.typeCall_enumerate_1 _) (F.newCall_enumerate_1 _) (fun obj => F.args_object_init_2 obj _) F.entry_enumerate_new (meets_enumN b1 a1 its1.toArray) ⟨o1, ?_⟩
  have z1 : (zh1 b1 s1.heap a1).objs.size = s1.heap.objs.size + 1 := Heap.size_push ..
  generalize eh : (zh1 b1 s1.heap a1).push { cls := .type "enumerate", data := .fields #[.none, .bool false, .ref s1.heap.objs.size, rawInt 0, .none, .none] } = h2
  have g2 : IsEnum h2 (zh1 b1 s1.heap a1).objs.size s1.heap.objs.size 0 .none := by rw [← eh]; exact Heap.get?_push_size _ rfl
  have g1 : h2.get? s1.heap.objs.size = some { cls := .type (itN b1), data := .fields #[.ref a1, .int 0 0] } := by rw [← eh]; exact Heap.get?_push_of_some _ (Heap.get?_push_size _ rfl)
  have kp : ∀ c o, s1.heap.get? c = some o → h2.get? c = some o := fun c o e => by rw [← eh]; exact Heap.get?_push_of_some _ (Heap.get?_push_of_some _ e)
  have I2 : Inv X pins σ H1 { s1 with heap := h2 } := I1.kept (t' := s1.toks) kp
  refine ⟨⟨_, g2, rfl⟩, wpAny_pyIter_enum g2 ?_⟩
  refine ⟨_, _, _, _, H1, rfl, I2, turn_enum (b := b1) (a := a1) (e := (zh1 b1 s1.heap a1).objs.size) (it := s1.heap.objs.size) (Nat.ne_of_gt (by rw [z1]; exact Nat.lt_succ_self _)), ⟨⟨_, g2⟩, ⟨_, g1, rfl, rfl⟩⟩, fun c hc => ?_, q⟩
  have hge : s1.heap.objs.size ≤ c := by
    simp only [List.mem_cons, List.not_mem_nil, or_false] at hc
    rcases hc with rfl | rfl <;> omega
  exact I1.fpOk hge (I1.hok.fresh hge)
def iEnum (f : FE) : FA := fun ρ => (f ρ).bind fun d => (seqD d).map enumD
theorem id_enum {a : Expr} {f : FE} {p : Pos} (hg : Gl X "enumerate") (hm : X.mg "enumerate" = none) (ha : PE X a (tD X.K f)) (hs : starEach [a] X.env = [(false, eval a X.env)] := by first | exact star_ns rfl | rfl) :
    PI X (.Tuple elts x1 tp) (.Call (.Name "enumerate" p) [a] [] pos) (tDI X.K (iEnum f)) := pi_imp (pi_enum hg hm (ad_cons (hs := by rw [hs]; rfl) ha ad_nil) hs) fun σ H R ⟨F0, H0, F, ρ, ds, r, hf, q⟩ => by
  obtain ⟨d, h1, h2⟩ := Option.bind_eq_some_iff.mp hf
  obtain ⟨es, h3, h4⟩ := Option.map_eq_some_iff.mp h2
  subst h4
  refine ⟨F0, H0, F, ρ, [d], r, by simp only [aCons, aNil, h1, Option.bind_some, Option.map_some], fun vs F' H' g' r' => ?_⟩
  obtain ⟨v1, t, rfl, e1, e2⟩ := r'.cons_inv
  cases e2.nil_inv
  obtain ⟨b1, a1, us, rfl, s1, l1⟩ := seqD_sq h3 e1
  exact ⟨b1, a1, us, rfl, sq_same g'.fh s1, q _ F' H' g' (itd_enum s1 l1)⟩
end
end DL

set_option maxRecDepth 100000
set_option maxHeartbeats 4000000
namespace DL
open PySem PySem.Spec PyProof.Rows L2
variable [Lam]
section
variable {X : Cx} {st : Stmt}
/-! ### a row that the run never comes to (a raise on a way not taken) -/
def sNever : FS := fun _ => none
theorem sd_never : PS X st (tDS X.K sNever) := fun pins s σ H D I ⟨F0, H0, F, ρ, fl, ρ', r, hf, q⟩ => by cases hf
/-! ### bits -/
abbrev oBand := oI (fun _ _ => true) fun i j => Builtin.bitAnd i j
abbrev oBor := oI (fun _ _ => true) fun i j => Builtin.bitOr i j
abbrev oBxor := oI (fun _ _ => true) fun i j => Builtin.bitXor i j
theorem od_band : OpR X (binaryOp .BitAnd) (rD X.K oBand) := opI0_D op_and
theorem od_bor : OpR X (binaryOp .BitOr) (rD X.K oBor) := opI0_D op_or
theorem od_bxor : OpR X (binaryOp .BitXor) (rD X.K oBxor) := opI0_D op_xor
/-! ### sorted, of a list of fewer than 64 ints -/
def insI (x : Int) : List Int → List Int
  | [] => [x]
  | y :: r => if x ≤ y then x :: y :: r else y :: insI x r
def sortI : List Int → List Int
  | [] => []
  | x :: r => insI x (sortI r)
theorem insI_perm (x : Int) : ∀ l, (insI x l).Perm (x :: l)
  | [] => .refl _
  | y :: r => by
    unfold insI
    split
    · exact .refl _
    · exact ((insI_perm x r).cons y).trans (.swap x y r)
theorem sortI_perm : ∀ l, (sortI l).Perm l
  | [] => .refl _
  | x :: r => (insI_perm x _).trans ((sortI_perm r).cons x)
theorem insI_rise (x : Int) : ∀ {l : List Int}, l.Pairwise (· ≤ ·) → (insI x l).Pairwise (· ≤ ·)
  | [], _ => .cons (fun _ h => by cases h) .nil
  | y :: r, .cons h1 h2 => by
    unfold insI
    split
    · rename_i hxy
      refine .cons (fun z hz => ?_) (.cons h1 h2)
      rcases List.mem_cons.mp hz with rfl | hz
      · exact hxy
      · exact Int.le_trans hxy (h1 z hz)
    · rename_i hxy
      refine .cons (fun z hz => ?_) (insI_rise x h2)
      rcases List.mem_cons.mp ((insI_perm x r).mem_iff.mp hz) with rfl | hz
      · omega
      · exact h1 z hz
theorem sortI_rise : ∀ l, (sortI l).Pairwise (· ≤ ·)
  | [] => .nil
  | x :: r => insI_rise x (sortI_rise r)
theorem rise_perm_eq : ∀ {l m : List Int}, l.Perm m → l.Pairwise (· ≤ ·) → m.Pairwise (· ≤ ·) → l = m
  | [], m, p, _, _ => (p.nil_eq).symm ▸ rfl
  | x :: l, [], p, _, _ => by cases p.length_eq
  | x :: l, y :: m, p, .cons h1 h2, .cons k1 k2 => by
    have e : x = y := by
      have hx : x ∈ y :: m := p.mem_iff.mp List.mem_cons_self
      have hy : y ∈ x :: l := p.mem_iff.mpr List.mem_cons_self
      rcases List.mem_cons.mp hx with e | hx
      · exact e
      · rcases List.mem_cons.mp hy with e | hy
        · exact e.symm
        · exact Int.le_antisymm (h1 y hy) (k1 x hx)
    subst e
    rw [rise_perm_eq (List.perm_cons _ |>.mp p) h2 k2]
theorem sortI_eq {l m : List Int} (p : m.Perm l) (h : m.Pairwise (· ≤ ·)) : m = sortI l := rise_perm_eq (p.trans (sortI_perm l).symm) h (sortI_rise l)
def oSorted : List D → Option (List D)
  | [.lst ds] => (intsD ds).bind fun ns => if ns.length < 64 then some ((sortI ns).map .int) else none
  | _ => none
theorem vals_ints : ∀ {us : List Value} {ns : List Int}, IntsAre us ns → Vals (ns.map V.int) us
  | _, _, .nil => .nil
  | _, _, .cons n t h => .cons ⟨t, rfl⟩ (vals_ints h)
theorem boot_sorted : bootBuiltins "sorted" = some (.builtin "sorted") := by decide +kernel
theorem cd_sorted (_hc : X.calm = true) : CallR X (.builtin "sorted") (rCL X.K oSorted) := fun pins s σ H xs us Q I rv ⟨F, ds, es, fh, rl, ho, q⟩ => by
  unfold oSorted at ho
  split at ho
  · obtain ⟨ns, h1, h2⟩ := Option.bind_eq_some_iff.mp ho
    split at h2
    · rename_i h64
      cases h2
      obtain ⟨x, rfl, rx⟩ := rep1 rl
      obtain ⟨a, ys, rfl, k1, k2⟩ := rep_lst.mp rx
      obtain ⟨u, rfl, ru⟩ := vals1 rv
      cases ru
      cases intsD_some h1
      have ey := RepL.ints.mp k2
      subst ey
      obtain ⟨its, r1, p1, _⟩ := I.list (fh.seq k1)
      have i1 : IntsAre its ns := intsAre_of r1
      have li : its.length = ns.length := i1.length
      refine sorted_ints p1.isList i1 (by rw [li]; exact h64) fun out ns' a1 a2 a3 => ?_
      obtain ⟨e, he⟩ := sortedAll_at s.heap its out
      have en := sortI_eq a2 a3
      subst en
      have hn : H (s.heap.objs.size + 1) = none := I.hok.fresh (Nat.le_succ _)
      have ll : (sortI ns).length = ns.length := (sortI_perm ns).length_eq
      have vo : Vals ((sortI ns).map V.int) out.toList := vals_ints a1
      refine ⟨.ref (s.heap.objs.size + 1), _, I.laid (t' := s.toks) (a := s.heap.objs.size + 1) (o := .lst ((sortI ns).map V.int)) (fun b ob q => sortedAll_old q) (Nat.le_succ _) ⟨by rw [List.length_map, ll]; exact lim_size (Nat.le_of_lt (Nat.lt_of_lt_of_le h64 (by decide))), out.toList, e, vo, ?_⟩, rfl, ?_⟩
      · rw [Array.toArray_toList]; exact he
      · exact q _ _ F _ (Grow.own fh hn) (fh.free hn) hn upd_same (RepL.ints.mpr rfl)
    · cases h2
  · cases ho
end
end DL

set_option maxRecDepth 100000
set_option maxHeartbeats 4000000
namespace DL
open PySem PySem.Spec PyProof.Rows L2
variable [Lam]
section
variable {X : Cx} {pins : List (Addr × Obj)} {σ : St} {F H : Hp} {s : Shared}
theorem eqAt_items (I : Inv X pins σ H s) (fh : Same F H) (A : Around) : ∀ {ds es : List D} {xs ys : List V} {us vs : List Value}, okEL ds es = true → A.units + depL ds < cLine → RepL X.K F ds xs → RepL X.K F es ys → Vals xs us → Vals ys vs →
      ∀ j (h1 : j < us.length) (h2 : j < vs.length), SeqAt.EqAt A s us[j] vs[j] (eqJ ds es j)
  | [], es, xs, ys, us, vs, _, _, k1, _, w1, _, j, h1, _ => by
    cases k1.nil_inv
    cases w1
    exact absurd h1 (Nat.not_lt_zero _)
  | d :: ds, es, xs, ys, us, vs, ho, hd, k1, k2, w1, w2, j, h1, h2 => by
    obtain ⟨x, r, rfl, a1, a2⟩ := k1.cons_inv
    cases w1 with
    | cons p1 p2 =>
      cases es with
      | nil => cases k2.nil_inv; cases w2; exact absurd h2 (Nat.not_lt_zero _)
      | cons e es =>
        obtain ⟨y, r', rfl, b1, b2⟩ := k2.cons_inv
        cases w2 with
        | cons p3 p4 =>
          simp only [okEL, Bool.and_eq_true] at ho
          simp only [depL] at hd
          cases j with
          | zero =>
            have e0 : eqJ (d :: ds) (e :: es) 0 = eqD d e := by simp [eqJ]
            rw [e0]
            exact eqAt_D I fh A ho.1 (by lia) a1 b1 p1 p3
          | succ j =>
            have e0 : eqJ (d :: ds) (e :: es) (j + 1) = eqJ ds es j := by simp [eqJ]
            rw [e0]
            exact eqAt_items I fh A ho.2 (by lia) a2 b2 p2 p4 j (by simpa using h1) (by simpa using h2)
/-! ### != of tuples -/
def oNeS : D → D → Option D
  | .tup ds, .tup es => if okEL ds es && decide (depL ds ≤ 60) then some (.bl (!eqL ds es)) else none
  | _, _ => none
theorem od_neS (hu : X.A.units + 64 < cLine) : OpR X (compareOp .NotEq) (rD X.K oNeS) := by
  intro pins s σ H x y v u Q I rx ry h
  obtain ⟨F, d1, d2, d, fh, r1, r2, ho, q⟩ := h
  unfold oNeS at ho
  split at ho
  · rename_i ds es
    split at ho
    · rename_i hc
      cases ho
      rw [Bool.and_eq_true] at hc
      obtain ⟨a, xs, rfl, k1, k2⟩ := rep_tup.mp r1
      obtain ⟨b, ys, rfl, k3, k4⟩ := rep_tup.mp r2
      cases rx
      cases ry
      obtain ⟨i1, v1, t1, _⟩ := I.tuple (same_seqT fh k1)
      obtain ⟨i2, v2, t2, _⟩ := I.tuple (same_seqT fh k3)
      have hq := eqAt_items I fh X.A.in1 hc.1 (by have := of_decide_eq_true hc.2; show X.A.units + 1 + depL ds < cLine; lia) k2 k4 v1 v2
      have := SeqAt.RcNeAt.tuples (A := X.A) (e := eqJ ds es) (show s.heap.IsTuple a i1.toArray from t1) (show s.heap.IsTuple b i2.toArray from t2) (by lia) (fun j h1 h2 => by simpa using hq j (by simpa using h1) (by simpa using h2))
      simp only [List.size_toArray, ← v1.length, ← v2.length, ← k2.length, ← k4.length, eqL_range] at this
      exact this X.prog X.w _ _ ⟨.bl _, H, I, rfl, q _ F H (.refl fh) (rep_bl.mpr rfl)⟩
    · cases ho
  · cases ho
abbrev oNe2 : D → D → Option D := fun x y => (oNeF x y).or (oNeS x y)
theorem od_ne2 (hu : X.A.units + 64 < cLine) : OpR X (compareOp .NotEq) (rD X.K oNe2) := opR_or od_neF (od_neS hu)
end
end DL


set_option maxRecDepth 100000
set_option maxHeartbeats 4000000
namespace DL
open PySem PySem.Spec PyProof.Rows L2
variable [Lam]
/-! ### a def that calls itself: by how deep it goes -/
theorem fnOk_none {P : Program} {w : World} {K : Frag} {mg : Str → Option Value} {base : Heap} {k ar : Nat} {f : Addr} {fd : FuncData} {ps : List Str} : FnOk P w K mg base CX0 k f fd ps (spD K ar fun _ => none) :=
  FnOk.mk (fun vs H Q E z => by
      obtain ⟨F, ds, d, _, _, _, h, _⟩ := z
      cases h)
    (fun A outer s H args us vs Q E _ _ _ _ z => by
      obtain ⟨F, ds, d, _, _, _, h, _⟩ := z
      cases h)
end DL

set_option maxRecDepth 100000
set_option maxHeartbeats 4000000
namespace DL
open PySem PySem.Spec PyProof.Rows L2
variable [Lam]
section
variable {X : Cx} {e : Expr} {pos : Pos} {f : FE}
theorem aug_D {K : Frag} {z : Int → Int → Int} {i : Nat} {D : Ends} {σ : St} {H : Hp} (h : tDS K (sSet i (eOp (oI (fun _ _ => true) z) (eV i) f)) D σ H) : tAug i (tD K f) (ipI z) D σ H := by
  obtain ⟨F0, H0, F, ρ, fl, ρ', r, hf, q⟩ := h
  obtain ⟨d, h1, h2⟩ := Option.map_eq_some_iff.mp hf
  cases h2
  obtain ⟨d1, h3, h1⟩ := Option.bind_eq_some_iff.mp h1
  obtain ⟨d2, h4, h5⟩ := Option.bind_eq_some_iff.mp h1
  obtain ⟨a, b, rfl, rfl, c, rfl⟩ := oI_some h5
  obtain ⟨v, e1, e2⟩ := r.fz _ _ (eV_some h3)
  refine ⟨v, e1, F0, H0, F, ρ, .int b, r, h4, fun w F' H' g' r' => ⟨a, b, rep_int.mp e2, rep_int.mp r', ?_⟩⟩
  exact q _ F' H' g'.ff ((r.grow g').set _ (rep_int.mpr rfl))
/-- x += e and x -= e of ints -/
theorem sd_augA {i : Nat} {x : Str} {px : Pos} (hN : X.N.Nodup) (hi : X.N[i]? = some x) (hx : Loc X.env.scope x) (he : PE X e (tD X.K f)) (hf : X.fn x = true ∨ X.env.scope.names.lookup x = some .local := by first | exact .inl rfl | exact .inr rfl | assumption) :
    PS X (.AugAssign (.Name x px) .Add e pos) (tDS X.K (sSet i (eOp oAdd (eV i) f))) := ps_imp (ps_aug hN hi hx he ip_add hf) fun D σ H h => aug_D h
theorem sd_augS {i : Nat} {x : Str} {px : Pos} (hN : X.N.Nodup) (hi : X.N[i]? = some x) (hx : Loc X.env.scope x) (he : PE X e (tD X.K f)) (hf : X.fn x = true ∨ X.env.scope.names.lookup x = some .local := by first | exact .inl rfl | exact .inr rfl | assumption) :
    PS X (.AugAssign (.Name x px) .Sub e pos) (tDS X.K (sSet i (eOp oSub (eV i) f))) := ps_imp (ps_aug hN hi hx he ip_sub hf) fun D σ H h => aug_D h
/-- abs of an int -/
def oAbs : List D → Option D
  | [.int i] => some (.int (if i < 0 then -i else i))
  | _ => none
theorem boot_abs : bootBuiltins "abs" = some (.builtin "abs") := by decide +kernel
theorem cd_abs : CallR X (.builtin "abs") (rC X.K oAbs) := callR_imp call_abs fun xs H Q ⟨F, ds, d, fh, rl, ho, q⟩ => by
  unfold oAbs at ho
  split at ho
  · cases ho
    rename_i i
    exact ⟨i, RepL.ints (ns := [i]).mp rl, q _ F H (.refl fh) (rep_int.mpr rfl)⟩
  · cases ho
/-- len(x), x a list of the frame's own -/
def eLenO (i : Nat) : FE := fun ρ => (owAt i ρ).map fun ds => .int ds.length
theorem pd_lenO {i : Nat} {x : Str} {px p : Pos} (hg : Gl X "len") (hm : X.mg "len" = none) (hv : PE X (.Name x px) (tVar i)) (hse : starEach [.Name x px] X.env = (false, eval (.Name x px) X.env) :: starEach [] X.env := by rfl) :
    PE X (.Call (.Name "len" p) [.Name x px] [] pos) (tD X.K (eLenO i)) := pe_imp (pe_callB call_len hg hm DL.boot_len' (pa_cons hv pa_nil hse)) fun σ H Q ⟨F0, H0, F, ρ, d, r, hf, q⟩ => by
  obtain ⟨ds, h1, h2⟩ := Option.map_eq_some_iff.mp hf
  subst h2
  obtain ⟨a, xs, e1, e2, e3, e4, e5⟩ := r.ow i ds (owAt_some h1)
  exact ⟨.ref a, e1, _, xs.length, rfl, .inl ⟨xs, SqL.of e2, rfl⟩, by rw [← e5.length]; exact q _ F H (.refl r.fh) (rep_int.mpr rfl)⟩
/-! ### != of lists -/
def oNeT : D → D → Option D
  | .lst ds, .lst es => if okEL ds es && decide (depL ds ≤ 60) then some (.bl (!eqL ds es)) else none
  | _, _ => none
theorem od_neT (hu : X.A.units + 64 < cLine) : OpR X (compareOp .NotEq) (rD X.K oNeT) := by
  intro pins s σ H x y v u Q I rx ry h
  obtain ⟨F, d1, d2, d, fh, r1, r2, ho, q⟩ := h
  unfold oNeT at ho
  split at ho
  · rename_i ds es
    split at ho
    · rename_i hc
      cases ho
      rw [Bool.and_eq_true] at hc
      obtain ⟨a, xs, rfl, k1, k2⟩ := rep_lst.mp r1
      obtain ⟨b, ys, rfl, k3, k4⟩ := rep_lst.mp r2
      cases rx
      cases ry
      obtain ⟨i1, v1, t1, _⟩ := I.list (fh.seq k1)
      obtain ⟨i2, v2, t2, _⟩ := I.list (fh.seq k3)
      have hq := eqAt_items I fh X.A.in1 hc.1 (by have := of_decide_eq_true hc.2; show X.A.units + 1 + depL ds < cLine; lia) k2 k4 v1 v2
      have hl1 : i1.length = ds.length := by rw [← v1.length, ← k2.length]
      have hl2 : i2.length = es.length := by rw [← v2.length, ← k4.length]
      by_cases hl : ds.length = es.length
      · have := SeqAt.RcNeAt.lists (A := X.A) (e := eqJ ds es) t1.isList t2.isList (by rw [List.size_toArray, List.size_toArray, hl1, hl2]; exact hl) (by lia) (fun j h1 h2 => by simpa using hq j (by simpa using h1) (by simpa using h2))
        have e1 : (List.range i1.toArray.size).all (eqJ ds es) = eqL ds es := by
          rw [← eqL_range, List.size_toArray, hl1, ← hl, Nat.min_self]; simp
        rw [e1] at this
        exact this X.prog X.w _ _ ⟨.bl _, H, I, rfl, q _ F H (.refl fh) (rep_bl.mpr rfl)⟩
      · have e1 : eqL ds es = false := by rw [← eqL_range]; simp [hl]
        rw [e1] at q
        have := SeqAt.RcNeAt.lists_lengths (A := X.A) t1.isList t2.isList (by rw [List.size_toArray, List.size_toArray, hl1, hl2]; simpa using hl) (by lia)
        exact this X.prog X.w _ _ ⟨.bl _, H, I, rfl, q _ F H (.refl fh) (rep_bl.mpr rfl)⟩
    · cases ho
  · cases ho
abbrev oNe3 : D → D → Option D := fun x y => (oNe2 x y).or (oNeT x y)
theorem od_ne3 (hu : X.A.units + 64 < cLine) : OpR X (compareOp .NotEq) (rD X.K oNe3) := opR_or (od_ne2 hu) (od_neT hu)
end
/-! ### keywords in the other order -/
def joinR {α : Type} (n m : Nat) (us ws : List α) : List α := if us.length = n ∧ ws.length = m then us ++ ws.reverse else []
def KBR (K : Frag) (fd : FuncData) (ps ks : List Str) (n m : Nat) : Prop := KBinds K fd ps ks (joinR n m) (joinR n m)
theorem vals_rev {xs : List V} {us : List Value} (h : Vals xs us) : Vals xs.reverse us.reverse := by
  induction h with
  | nil => exact .nil
  | cons a b ih => rw [List.reverse_cons, List.reverse_cons]; exact ih.append (.cons a .nil)
theorem repL_rev {K : Frag} {F : Hp} : ∀ {ds : List D} {xs : List V}, RepL K F ds xs → RepL K F ds.reverse xs.reverse
  | [], xs, h => by cases h.nil_inv; exact .nil
  | d :: ds, xs, h => by
    obtain ⟨x, r, rfl, a, b⟩ := h.cons_inv
    rw [List.reverse_cons, List.reverse_cons]
    exact (repL_rev b).append (.cons a .nil)
theorem kbr_mk {K : Frag} {fd : FuncData} {ps ks : List Str} {n m : Nat} (hp : ps ≠ []) (h : ∀ (s : Shared) (us ws : List Value), K.In s.heap → us.length = n → ws.length = m → BindsTo s fd ⟨us, ks.zip ws⟩ (ps.zip (us ++ ws.reverse))) : KBR K fd ps ks n m := by
  refine ⟨fun s us ws hk hl => ?_, fun {vs us zs ws} a b => ?_⟩
  · unfold joinR at hl ⊢
    split at hl
    · rename_i z
      rw [if_pos z]
      exact h s us ws hk z.1 z.2
    · exact absurd (List.eq_nil_of_length_eq_zero hl.symm) hp
  · unfold joinR
    rw [a.length, b.length]
    split
    · exact a.append (vals_rev b)
    · exact .nil
def aAppR (n m : Nat) (fa fk : FA) : FA := fun ρ => (fa ρ).bind fun ds => (fk ρ).bind fun es => if ds.length = n ∧ es.length = m then some (ds ++ es.reverse) else none
theorem pd_calKR {X : Cx} {e : Expr} {es : List Expr} {kws : List Keyword} {pos p : Pos} {fa fk : FA} {k ar k' : Nat} {fn : Addr} {fd : FuncData} {ps ks : List Str} {op : List D → Option D} {x : Str} (C : Cal X.prog X.w X.K X.mg X.base x k ps ar op fn fd) {n m : Nat} (hb : KBR X.K fd ps ks n m) (hr : Room k' X.A) (hk : k ≤ k') (hg : Gl X x) (ha : PA X (e :: es) (tDA X.K fa)) (hkw : PK X kws (tDA X.K fk)) (hall : (backToKw pos (keywordEach kws X.env)).all (·.1.isSome) = true := by rfl) (hks : (backToKw pos (keywordEach kws X.env)).filterMap (·.1) = ks := by rfl)
    (hdb : (x == ("__debug__" : Str)) = false := by decide) (he : starEach (e :: es) X.env = (false, eval e X.env) :: starEach es X.env := by rfl)
    (hpl : ((backTo pos (starEach (e :: es) X.env)).any (·.1) || (backToKw pos (keywordEach kws X.env)).any (·.1.isNone)) = false := by rfl) : PE X (.Call (.Name x p) (e :: es) kws pos) (tD X.K (eCall (callK ar op) (aAppR n m fa fk))) :=
  pe_imp (pe_callK C.ok (hr.mono hk) hg C.mg C.kp hb pass0 ha hkw hall hks hdb he hpl) fun σ H Q ⟨F0, H0, Fz, ρ, d, r, hf, q⟩ => by
    obtain ⟨ds, h1, h2⟩ := Option.bind_eq_some_iff.mp hf
    obtain ⟨ds1, h3, h4⟩ := Option.bind_eq_some_iff.mp h1
    obtain ⟨ds2, h5, h6⟩ := Option.bind_eq_some_iff.mp h4
    split at h6
    · rename_i hc
      cases h6
      unfold callK at h2
      split at h2
      · rename_i hl
        refine ⟨F0, H0, Fz, ρ, ds1, r, h3, fun vs F1 H1 g1 r1 => ⟨F0, H0, F1, ρ, ds2, r.grow g1, h5, fun zs F2 H2 g2 r2 => ?_⟩⟩
        have ej : joinR n m vs zs = vs ++ zs.reverse := if_pos ⟨by rw [← r1.length]; exact hc.1, by rw [← r2.length]; exact hc.2⟩
        show spD X.K ar op (joinR n m vs zs) H2 Q E0
        rw [ej]
        exact ⟨F2, ds1 ++ ds2.reverse, d, r.sameT (g1.trans g2), (r1.mono g2.ff).append (repL_rev r2), hl, h2, fun v F3 H3 g3 r3 => q v F3 H3 (g1.trans (g2.trans g3)) r3⟩
      · cases h2
    · cases h6
end DL

set_option maxRecDepth 100000
namespace Rv
open PySem PyProof.Rows
/-! ### tuple(reversed(list)) -/
theorem nolen_lr : typeLookup (.type "list_reverseiterator") "__len__" = pure none := by rw [typeLookup_type, builtinLookup_eq_fast]; kernel_rfl
theorem hint_lr : typeLookup (.type "list_reverseiterator") "__length_hint__" = pure (some (.builtin "list_reverseiterator.__length_hint__")) := by rw [typeLookup_type, builtinLookup_eq_fast]; kernel_rfl
section
variable {prog : Program} {w : World} {A : Around} {E : Value → Shared → Prop} {s : Shared} {I : Addr} {fp wr : List Addr} {G : Array GenState → Array GenState → Prop} {n : Nat} {P : Nat → Value → Prop} {St : Nat → Shared → Prop}
theorem collect_rev {Q : List Value → Shared → Prop}
    (W : WalksS prog w A.in1 I fp wr G n P St) (hT : ∀ i s, St i s → s.TypeIs (.ref I) "list_reverseiterator") (hst : St 0 s) (hfp : ∀ b ∈ fp, b < s.heap.objs.size) (hI : I ∈ fp)
    (hQ : ∀ s' acc, Moved wr G s s' → ItemsOf P acc n → Q acc.toList s') (hn : n ≤ sizeLine) : wpAny (model prog w) A (collect (.ref I)) Q E s := by
  have hSf : s.heap.objs.size ∉ fp := fun hm => Nat.lt_irrefl _ (hfp _ hm)
  have hSI : s.heap.objs.size ≠ I := fun e => hSf (e ▸ hI)
  unfold collect
  refine wpAny_bind (wpAny_runValue (codeAny_builtin F.entry_proto_collect ?_))
  rw [Around.under_plainId F.plain_proto_collect _]
  show wpAny _ A.in1 (newList [] >>= fun l => again (.builtin "list.__iadd__" ⟨[l, .ref I], []⟩)) _ _ s
  refine wpAny_bind (wpAny_newObj_type ?_)
  refine wpAny_pure ⟨plainId_quiet F.plain_list_iadd _, codeAny_builtin F.entry_list_iadd ?_⟩
  rw [Around.under_plainId F.plain_list_iadd _]
  have hst₁ := W.frame 0 s (s.heap.push { cls := .type "list", data := .seq ([] : List Value).toArray }) s.toks hst (Nat.le_refl _) fun b _ o e => Heap.get?_push_of_some _ e
  have hS₁ : (s.heap.push { cls := .type "list", data := .seq ([] : List Value).toArray }).get? s.heap.objs.size = some { cls := .type "list", data := .seq ([] : List Value).toArray } := Heap.get?_push_size _ rfl
  have h1 : Builtin.List.listSameRef (.ref s.heap.objs.size) (.ref I) = false := by simp [Builtin.List.listSameRef, hSI]
  show wpAny _ A.in1 (Builtin.List.listExtendWith (.ref s.heap.objs.size) (.ref I) (.ref s.heap.objs.size)) _ _ _
  unfold Builtin.List.listExtendWith
  refine wpAny_bind (wpAny_typeOf (hT 0 _ hst₁) ?_)
  rw [if_neg (by rw [h1]; decide)]
  refine wpAny_bind (W.self 0 _ _ _ hst₁ ?_)
  refine wpAny_bind (wpAny_holding ?_)
  unfold Builtin.List.listLengthHint
  refine wpAny_bind (wpAny_specialOf (hT 0 _ hst₁) nolen_lr ?_)
  show wpAny _ A.in1 (specialOf (Value.ref I) (Str.ofString "__length_hint__") >>= _) _ _ _
  refine wpAny_bind (wpAny_specialOf (hT 0 _ hst₁) hint_lr ?_)
  (generalize hid : ("list_reverseiterator.__length_hint__" : String) = id0; (fail_if_success (clear hid id0)); wp_delta; rw [show splitId id0 = some ("list_reverseiterator", "__length_hint__") from by subst hid; decide +kernel]; subst hid)
  refine wpAny_bind (wpAny_isInstance (b := true) (hT 0 _ hst₁) (by rw [isSubtype_type]; kernel_rfl) ?_)
  refine wpAny_pure ?_
  rw [if_neg (by decide)]
  refine wpAny_pure ⟨plainId_quiet F.plain_extend_loop _, codeAny_extend_loopS W hn _ hSf _ n 0 _ _ _ rfl (Nat.zero_le _) hst₁ hS₁ (ItemsOf.nil P) fun s' acc' c' hm hS' hacc => ?_⟩
  show wpAny _ A (load s.heap.objs.size >>= _) _ _ s'
  refine wpAny_bind (wpAny_load hS' ?_)
  exact wpAny_pure (hQ s' acc' (Moved.drop_new (o := { cls := .type "list", data := .seq ([] : List Value).toArray }) (tk := s.toks) hm (Nat.le_refl _)) hacc)
theorem code_tuple_rev {Q₁ : Value → Shared → Prop} (W : WalksS prog w A.in1.in1 I fp wr G n P St) (hT : ∀ i s, St i s → s.TypeIs (.ref I) "list_reverseiterator") (hst : St 0 s) (hfp : ∀ b ∈ fp, b < s.heap.objs.size) (hI : I ∈ fp)
    (h : ∀ s' acc, Moved wr G s s' → ItemsOf P acc n → Q₁ (.ref s'.heap.objs.size) { s' with heap := s'.heap.push { cls := .type "tuple", data := .seq acc } }) (hsz : n ≤ sizeLine) :
    codeAny (model prog w) A (.call (.builtin "tuple.__new__") ⟨[.type "tuple", .ref I], []⟩) (wants Q₁ E) s := by
  refine codeAny_of_tree ?_
  show wpAny _ A.in1 (do checkBuiltinCall "tuple.__new__" ⟨[.type "tuple", .ref I], []⟩; again (.builtin "tuple.__new__" ⟨[.type "tuple", .ref I], []⟩)) _ _ s
  refine wpAny_bind (wpAny_of_eq (F.newCall_tuple_1 _) (wpAny_pure ⟨plainId_quiet F.plain_tuple_new _, codeAny_builtin F.entry_tuple_new ?_⟩))
  rw [Around.under_plainId F.plain_tuple_new _]
  have hsub := sub_tuple_self
  have hinit := init_tuple_lookup
  have hmh := madeHere_tuple
  have hTI := hT 0 s hst
  wp_walk using wpAny_typeOf hTI, collect_rev (hn := hsz) W hT hst hfp hI
  intro s' acc hm hacc
  show wpAny _ _ (Builtin.Tuple.tupleExact acc.toList.toArray >>= fun v => ret v) _ _ _
  unfold Builtin.Tuple.tupleExact
  refine wpAny_bind (wpAny_newObj_type ?_ (by show acc.toList.toArray.size ≤ sizeLine; simp only [Array.toArray_toList]; rw [hacc.1]; exact hsz))
  refine wpAny_pure ?_
  have e : acc.toList.toArray = acc := by simp
  rw [e]
  exact h s' acc hm hacc
theorem call_tuple_rev {Q : Value → Shared → Prop} (W : WalksS prog w A.in1.in1.in1 I fp wr G n P St) (hT : ∀ i s, St i s → s.TypeIs (.ref I) "list_reverseiterator") (hst : St 0 s) (hfp : ∀ b ∈ fp, b < s.heap.objs.size) (hI : I ∈ fp)
    (hQ : ∀ s' acc, Moved wr G s s' → ItemsOf P acc n → Q (.ref s'.heap.objs.size) { s' with heap := s'.heap.push { cls := .type "tuple", data := .seq acc } }) (hsz : n ≤ sizeLine) :
    wpAny (model prog w) A (call (.type "tuple") [.ref I]) Q E s := by
  refine callType_codes (Q₁ := fun obj s₁ => s₁.TypeIs obj "tuple" ∧ Q obj s₁) F.called_tuple (F.typeCall_tuple_1 _) F.entry_object_init
    (code_tuple_rev (hsz := hsz) W hT hst hfp hI fun s' acc hm hacc => ⟨⟨_, Heap.get?_push_size _ rfl, rfl⟩, hQ s' acc hm hacc⟩) fun obj s₁ h₁ => ?_
  exact ⟨h₁.1, F.args_object_init_2 obj _, object_init_meets F.called_tuple.init.lookup F.called_tuple.made (by decide) prog w A.in1 _ s₁ ⟨h₁.1, rfl, h₁.2⟩⟩
end
end Rv

set_option maxRecDepth 100000
set_option maxHeartbeats 4000000
namespace DL
open PySem PySem.Spec PyProof.Rows L2
variable [Lam]
/-! ### for x in reversed(list) -/
def Itv (K : Frag) (a : Addr) (n : Nat) : It :=
  ⟨fun i H => ∃ xs x, SqL K H a xs ∧ xs.length = n ∧ i < n ∧ xs[n - 1 - i]? = some x, fun i H v H' => H' = H ∧ ∀ xs, SqL K H a xs → xs[n - 1 - i]? = some v, fun i _ => n ≤ i⟩
theorem turn_rev {P : Program} {w : World} {K : Frag} {tg : Expr} (a it : Addr) (n : Nat) : Turn P w K tg (Itv K a n) [it] it (fun i h => i ≤ n ∧ h.IsRevIter it a ((n : Int) - 1 - (i : Int))) where
  mem := by simp
  obj := fun i h st b hb => by
    have e : b = it := by simpa using hb
    subst e
    obtain ⟨_, o, e, c, d⟩ := st
    exact ⟨o, e, fun v z => by rw [d] at z; cases z⟩
  keep := fun i h h' st k => ⟨st.1, st.2.at fun o e => k it (by simp) o e⟩
  item := by
    intro X hP hw hK hc i pins s σ H E I hf st hg
    subst hP hw hK
    obtain ⟨xs, x, hq, hn, hi, hx⟩ := hg
    obtain ⟨its, rv, p, hz⟩ := I.list hq
    obtain ⟨u, hu, ru⟩ := rv.get hx
    obtain ⟨f0, f1, f2, f3, f4, f5⟩ := hf it (by simp)
    have st2 := st.2
    rw [show (n : Int) - 1 - (i : Int) = ((n - 1 - i : Nat) : Int) by lia] at st2
    refine wpAny_pyNext_rev_item st2 p.isList (x := u) (by simpa using hu) fun h' st' sb => ?_
    have I1 : Inv X pins σ H { s with heap := h' } := I.turned (t' := s.toks) (fun b o hb e => (sb.2 b hb).trans e) f0 f1 f3 f4 f5
    obtain ⟨o, e, c, d⟩ := id st'
    rw [show ((n - 1 - i : Nat) : Int) - 1 = (n : Int) - 1 - ((i + 1 : Nat) : Int) by lia] at st'
    exact ⟨u, rfl, go_of (s := { s with heap := h' }) e c d (by decide) ⟨x, H, I1, ru, ⟨rfl, fun ys hy => by rw [I.list_inj hy hq]; exact hx⟩, ⟨hi, st'⟩, fun b hb => (hf b hb).1⟩⟩
  done := by
    intro X hP hw hK hc i pins s σ H E I hf st hg
    subst hP hw hK
    obtain ⟨f0, f1, f2, f3, f4, f5⟩ := hf it (by simp)
    have hg : n ≤ i := hg
    have st2 := st.2
    rw [show (n : Int) - 1 - (i : Int) = -1 by have := st.1; lia] at st2
    exact wpAny_pyNext_rev_end (I.ok.hd hc) st2 fun h' eb => ⟨rfl, I.turned (t' := s.toks) (fun b o hb e => eb b o hb e) f0 f1 f3 f4 f5⟩
  self := fun _ _ _ _ _ st h => wpAny_pyIter_revIter st.2 h
theorem itd_rev {K : Frag} {F : Hp} {a : Addr} {xs : List V} {ds : List D} (h : SqL K F a xs) (hd : RepL K F ds xs) : ItD K F ds.reverse (Itv K a xs.length) where
  go := fun i F' H s1 s2 hi => by
    have hl := hd.length
    rw [List.length_reverse, hl] at hi
    exact ⟨xs, xs[xs.length - 1 - i]'(by lia), (s1.trans s2).seq h, rfl, hi, by simp⟩
  yld := fun i d F' H x H' s1 s2 hi ⟨e, y⟩ => by
    subst e
    have hl := hd.length
    have hlt : i < ds.length := by
      have := (List.getElem?_eq_some_iff.mp hi).1
      rwa [List.length_reverse] at this
    rw [List.getElem?_reverse hlt] at hi
    obtain ⟨z, h1, h2⟩ := hd.get hi
    have := y xs ((s1.trans s2).seq h)
    rw [← hl, h1] at this; cases this
    exact ⟨F', .refl s2, h2.mono s1⟩
  stop := fun i F' H s1 s2 hi => by
    rw [List.length_reverse, hd.length] at hi
    exact hi
section
variable {X : Cx} {pos : Pos} {tg : Expr}
theorem boot_rev : bootBuiltins "reversed" = some (.type "reversed") := by decide +kernel
theorem pi_rev {a : Expr} {ta : TA} {p : Pos} (hg : Gl X "reversed") (hm : X.mg "reversed" = none) (ha : PA X [a] ta) (hs : starEach [a] X.env = [(false, eval a X.env)] := by first | exact star_ns rfl | rfl) :
    PI X tg (.Call (.Name "reversed" p) [a] [] pos) (fun σ H R => ta σ H fun vs H1 => ∃ a xs, vs = [.ref a] ∧ SqL X.K H1 a xs ∧ R (Itv X.K a xs.length) H1) := by
  intro pins s σ H R I h
  refine Call_ (ld_blt I hg hm boot_rev (PyProof.Rows.callWith_type1 (thn (ha pos pins s σ H _ I h) fun us s1 ⟨vs, H1, I1, r1, q1⟩ => ?_) (by rw [hs]; rfl) (by rfl)))
  obtain ⟨a1, xs, rfl, k1, q⟩ := q1
  obtain ⟨u1, rfl, e1⟩ := vals1 r1
  cases e1
  obtain ⟨its, rv, pl, hz⟩ := I1.list k1
  have hlen := rv.length
  refine call_reversed_list pl.isList ?_
  have g : ((s1.heap.push (revObj a1 ((its.toArray.size : Int) - 1)))).IsRevIter s1.heap.objs.size a1 ((xs.length : Int) - 1 - ((0 : Nat) : Int)) := ⟨_, Heap.get?_push_size _ rfl, rfl, by simp [revObj, hlen]⟩
  refine wpAny_pyIter_revIter g ?_
  refine ⟨s1.heap.objs.size, [s1.heap.objs.size], _, _, H1, rfl, I1.kept (t' := s1.toks) fun b o e => Heap.get?_push_of_some _ e, turn_rev a1 _ xs.length, ⟨Nat.zero_le _, g⟩, fun b hb => ?_, q⟩
  have e : b = s1.heap.objs.size := by simpa using hb
  subst e
  exact I1.fpOk (Nat.le_refl _) (I1.hok.fresh (Nat.le_refl _))
def iRev (f : FE) : FA := fun ρ => (f ρ).bind fun d => match d with
  | .lst ds => some ds.reverse
  | _ => none
theorem id_rev {a : Expr} {f : FE} {p : Pos} (hg : Gl X "reversed") (hm : X.mg "reversed" = none) (ha : PE X a (tD X.K f)) (hs : starEach [a] X.env = [(false, eval a X.env)] := by first | exact star_ns rfl | rfl) :
    PI X tg (.Call (.Name "reversed" p) [a] [] pos) (tDI X.K (iRev f)) := pi_imp (pi_rev hg hm (ad_cons (hs := by rw [hs]; rfl) ha ad_nil) hs) fun σ H R ⟨F0, H0, F, ρ, ds, r, hf, q⟩ => by
  obtain ⟨d, h1, h2⟩ := Option.bind_eq_some_iff.mp hf
  refine ⟨F0, H0, F, ρ, [d], r, by simp only [aCons, aNil, h1, Option.bind_some, Option.map_some], fun vs F' H' g' r' => ?_⟩
  obtain ⟨v1, t, rfl, e1, e2⟩ := r'.cons_inv
  cases e2.nil_inv
  split at h2
  · cases h2
    obtain ⟨a1, us, rfl, s1, l1⟩ := rep_lst.mp e1
    exact ⟨a1, us, rfl, g'.fh.seq s1, q _ F' H' g' (itd_rev s1 l1)⟩
  · cases h2
/-! ### tuple(reversed(list)) -/
def eRevT (f : FE) : FE := fun ρ => (f ρ).bind fun d => match d with
  | .lst ds => some (.tup ds.reverse)
  | _ => none
omit [Lam] in
theorem items_rev {its : List Value} {acc : Array Value} (h : ItemsOf (fun i v => its.toArray[its.toArray.size - 1 - i]? = some v) acc its.toArray.size) : acc.toList = its.reverse := by
  apply List.ext_getElem?
  intro i
  have hs : acc.size = its.length := by have := h.1; simpa using this
  by_cases hi : i < its.length
  · have e : acc[i]? = some acc[i] := Array.getElem?_eq_getElem (by lia)
    have := h.2 i _ e
    rw [Array.getElem?_toList, e, List.getElem?_reverse hi, ← this]
    simp
  · rw [Array.getElem?_toList, Array.getElem?_eq_none (by lia), List.getElem?_eq_none (by rw [List.length_reverse]; lia)]
theorem pd_tupRev {a : Expr} {f : FE} {p p2 q2 : Pos} (hc : X.calm = true) (hgt : Gl X "tuple") (hmt : X.mg "tuple" = none) (hgr : Gl X "reversed") (hmr : X.mg "reversed" = none) (ha : PE X a (tD X.K f))
    (s1 : starEach [a] X.env = [(false, eval a X.env)] := by first | exact star_ns rfl | rfl) (s2 : starEach [.Call (.Name "reversed" p2) [a] [] q2] X.env = [(false, eval (.Call (.Name "reversed" p2) [a] [] q2) X.env)] := by first | exact star_ns rfl | rfl) :
    PE X (.Call (.Name "tuple" p) [.Call (.Name "reversed" p2) [a] [] q2] [] pos) (tD X.K (eRevT f)) := by
  intro pins s σ H Q I ⟨F0, H0, F, ρ, d, r, hf, q⟩
  obtain ⟨d', h1, h2⟩ := Option.bind_eq_some_iff.mp hf
  split at h2
  case h_2 => cases h2
  cases h2
  rename_i ds
  refine Call_ (ld_blt I hgt hmt DL.boot_tuple (PyProof.Rows.callWith_type1 ?_ (by rw [s2]; rfl) (by rfl)))
  rw [s2]
  refine Calls.spliced_cons ?_
  have hp : PA X [a] (tDA X.K (aCons f aNil)) := ad_cons (hs := by rw [s1]; rfl) ha ad_nil
  refine Call_ (ld_blt I hgr hmr boot_rev (PyProof.Rows.callWith_type1 (thn (hp q2 pins s σ H (fun vs H1 => ∃ F', Grow F H F' H1 ∧ RepL X.K F' [.lst ds] vs) I ⟨F0, H0, F, ρ, [.lst ds], r, by simp only [aCons, aNil, h1, Option.bind_some, Option.map_some], fun vs F' H' g' r' => ⟨F', g', r'⟩⟩) fun us s1' ⟨vs, H1, I1, r1, F', g', q1⟩ => ?_) (by rw [s1]; rfl) (by rfl)))
  obtain ⟨v1, t, rfl, e1, e2⟩ := q1.cons_inv
  cases e2.nil_inv
  obtain ⟨u1, rfl, e3⟩ := vals1 r1
  obtain ⟨a1, xs, rfl, k1, l1⟩ := rep_lst.mp e1
  cases e3
  obtain ⟨its, rv, pl, hz⟩ := I1.list (g'.fh.seq k1)
  have hlen := rv.length
  have hla : a1 < s1'.heap.objs.size := by obtain ⟨o, ho, _⟩ := pl.isList; exact Heap.lt_size ho
  refine call_reversed_list pl.isList (Calls.spliced_nil ?_)
  have kp : ∀ b o, s1'.heap.get? b = some o → (s1'.heap.push (revObj a1 ((its.toArray.size : Int) - 1))).get? b = some o := fun b o e => Heap.get?_push_of_some _ e
  have g : (s1'.heap.push (revObj a1 ((its.toArray.size : Int) - 1))).IsRevIter s1'.heap.objs.size a1 ((its.toArray.size : Int) - 1 - ((0 : Nat) : Int)) := ⟨_, Heap.get?_push_size _ rfl, rfl, by simp [revObj]⟩
  refine Rv.call_tuple_rev (Walks.listRev (prog := X.prog) (w := X.w) (A := X.A.in1.in1.in1) (I.ok.hd hc) s1'.heap.objs.size a1 (Nat.ne_of_lt hla) its.toArray).toS (fun i s st => st.2.1.typeIs) ⟨Nat.zero_le _, g, pl.isList.at fun o e => kp a1 o e⟩ (fun b hb => ?_) (by simp) (fun s' acc hm hacc => ?_) (by simp only [List.size_toArray]; lia)
  · show b < (s1'.heap.push _).objs.size
    rw [Heap.size_push]
    simp only [List.mem_cons, List.not_mem_nil, or_false] at hb
    rcases hb with rfl | rfl <;> lia
  · have hkp : ∀ b o, s1'.heap.get? b = some o → s'.heap.get? b = some o := fun b o e => hm.heap b o (by simp only [List.mem_cons, List.not_mem_nil, or_false]; exact Nat.ne_of_lt (Heap.lt_size e)) (kp b o e)
    have es : s' = { s1' with heap := s'.heap, toks := s'.toks } := by
      obtain ⟨h1, h2, h3, h4, h5⟩ := hm
      obtain ⟨ha, hb, hc, hd, he⟩ := s'
      simp only at h2 h3 h4
      subst h2 h3 h4
      rfl
    have I2 : Inv X pins σ H1 s' := by rw [es]; exact I1.kept (t' := s'.toks) hkp
    have I3 : Inv X pins σ (upd H1 s'.heap.objs.size (.tup xs.reverse)) { s' with heap := s'.heap.push { cls := .type "tuple", data := .seq acc } } :=
      I2.laid (t' := s'.toks) (fun b o e => Heap.get?_push_of_some _ e) (Nat.le_refl _) (show ObjOk X.prog X.w _ _ _ (.tup xs.reverse) from ⟨by rw [List.length_reverse]; exact hz, its.reverse, vals_rev rv, by
        rw [← items_rev hacc]
        have e : acc = acc.toList.toArray := by simp
        rw [e]
        exact IsTup.new _ _⟩)
    have g2 : Grow F' H1 (upd F' s'.heap.objs.size (.tup xs.reverse)) (upd H1 s'.heap.objs.size (.tup xs.reverse)) := Grow.new g'.fh (I2.hok.fresh (Nat.le_refl _))
    exact ⟨.ref s'.heap.objs.size, _, I3, rfl, q _ _ _ (g'.trans g2) (rep_tup.mpr ⟨_, _, rfl, SqT.of upd_same, repL_rev (l1.mono g2.ff)⟩)⟩
end
end DL

set_option maxRecDepth 100000
set_option maxHeartbeats 4000000
namespace HT
open PySem PySem.Spec PyProof.Rows
section
variable {prog : Program} {w : World} {A : Around} {E : Value → Shared → Prop} {s : Shared}
/-! ### t[::-1] of a tuple -/
theorem places_rev (n : Nat) : Builtin.Slice.slicePlaces ((n : Int) - 1) (-1) (-1) = n := by
  unfold Builtin.Slice.slicePlaces
  rw [if_neg (by decide)]
  by_cases h : (n : Int) - 1 > -1
  · rw [if_pos h, show (- -1 : Int) = 1 by decide, Int.ediv_one]; lia
  · rw [if_neg h]; lia
theorem fm_congr {α β : Type} {f g : α → Option β} : ∀ {l : List α}, (∀ a ∈ l, f a = g a) → l.filterMap f = l.filterMap g
  | [], _ => rfl
  | a :: l, h => by rw [List.filterMap_cons, List.filterMap_cons, h a List.mem_cons_self, fm_congr fun b hb => h b (List.mem_cons_of_mem _ hb)]
theorem pick_rev (xs : Array Value) : ((List.range xs.size).filterMap fun (m : Nat) => xs[((xs.size : Int) - 1 + (m : Int) * (-1)).toNat]?) = xs.toList.reverse := by
  have e : ∀ m ∈ List.range xs.size, xs[((xs.size : Int) - 1 + (m : Int) * (-1)).toNat]? = xs.toList.reverse[m]? := fun m hm => by
    have hm := List.mem_range.mp hm
    rw [List.getElem?_reverse (by simpa using hm), show ((xs.size : Int) - 1 + (m : Int) * (-1)).toNat = xs.size - 1 - m by lia]
    simp
  rw [fm_congr e]
  have hl : xs.size = xs.toList.reverse.length := by simp
  rw [hl]
  generalize xs.toList.reverse = l
  clear e hl
  induction l with
  | nil => rfl
  | cons a l ih =>
    rw [List.length_cons, List.range_succ_eq_map, List.filterMap_cons, List.filterMap_map]
    show a :: List.filterMap _ _ = _
    congr 1
theorem getItem_tuple_rev {t sl : Addr} {items : Array Value} {u : Tok} {Q : Value → Shared → Prop} (ht : IsTup s.heap t items) (hs : s.heap.IsSliceOf sl .none .none (.int (-1) u))
    (h : Q (.ref s.heap.objs.size) { s with heap := s.heap.push { cls := .type "tuple", data := .seq items.toList.reverse.toArray } })
    (hsz : items.size ≤ sizeLine) : wpAny (model prog w) A (getItem (.ref t) (.ref sl)) Q E s := by
  have htake : sizeOk (.seq items.toList.reverse.toArray) := by
    show items.toList.reverse.toArray.size ≤ sizeLine
    rw [List.size_toArray, List.length_reverse, Array.length_toList]
    lia
  obtain ⟨os, hos, hcs, hds⟩ := id hs
  have hTs : s.TypeIs (.ref sl) "slice" := ⟨os, hos, hcs⟩
  unfold getItem
  try with_reducible refine wpAny_holding ?_
  first | refine wpAny_bind (wpAny_pure ?_) | skip
  refine wpAny_bind (wpAny_sequenceKey ht.typeIs (by decide) ?_)
  refine wpAny_bind (wpAny_callSpecial?_slot (name := Str.ofString "__getitem__") ht.typeIs PyProof.Rows.slot_tuple_getitem
    (wpAny_call_entry PyProof.Rows.slot_tuple_getitem ht.typeIs entry_tuple_getitem ?_ (args_tuple_getitem _ _)))
  show wpAny _ _ (Builtin.Tuple.tupleItemsOf (.ref t) >>= _) _ _ s
  refine wpAny_bind (tupleItemsOf_ ht ?_)
  refine wpAny_bind (wpAny_typeOf hTs ?_)
  rw [if_pos (by decide)]
  have ap : wpAny (model prog w) A.in1 (Builtin.Slice.sliceApplied (.ref sl) (pure (items.size : Int))) (fun r s' => r = ((items.size : Int) - 1, -1, items.size) ∧ s' = s) E s := by
    unfold Builtin.Slice.sliceApplied Builtin.Slice.sliceFields
    refine wpAny_bind (wpAny_bind (wpAny_field hos hds (x := .none) rfl (wpAny_bind (wpAny_field hos hds (x := .none) rfl (wpAny_bind (wpAny_field hos hds (x := .int (-1) u) rfl (wpAny_pure ?_)))))))
    refine wpAny_bind (slicePart_int ?_)
    show wpAny _ _ (if ((-1 : Int) == 0) = true then _ else _) _ _ s
    rw [if_neg (by decide)]
    refine wpAny_bind (slicePart_none (wpAny_bind (slicePart_none (wpAny_bind (wpAny_pure ?_)))))
    show wpAny _ _ (pure ((items.size : Int) - 1, (-1 : Int), Builtin.Slice.slicePlaces ((items.size : Int) - 1) (-1) (-1))) _ _ s
    rw [places_rev]
    exact wpAny_pure ⟨rfl, rfl⟩
  refine wpAny_bind (L2.thn ap fun r s' hr => ?_)
  obtain ⟨rfl, rfl⟩ := hr
  show wpAny _ _ (if (((items.size : Int) - 1 == 0 && (-1 : Int) == 1 && items.size == items.size)) = true then _ else _) _ _ s'
  rw [if_neg (by rw [show ((-1 : Int) == 1) = false by decide, Bool.and_false, Bool.false_and]; decide), pick_rev]
  first
    | exact wpAny_bind (m := Builtin.Tuple.tupleExact _) (wpAny_newObj_type (wpAny_pure ⟨_, rfl, wpAny_pure h⟩) htake)
    | exact wpAny_bind (m := Builtin.Tuple.tupleExact _) (wpAny_newObj_type (wpAny_bind (wpAny_pure (wpAny_pure ⟨_, rfl, wpAny_pure h⟩))) htake)
    | exact wpAny_bind (wpAny_bind (m := Builtin.Tuple.tupleExact _) (wpAny_newObj_type (wpAny_pure (wpAny_pure ⟨_, rfl, wpAny_pure h⟩)) htake))
    | exact wpAny_bind (wpAny_bind (m := Builtin.Tuple.tupleExact _) (wpAny_newObj_type (wpAny_pure ⟨_, rfl, wpAny_pure h⟩) htake))
end
end HT
namespace DL
open PySem PySem.Spec PyProof.Rows L2
variable [Lam]
section
variable {X : Cx} {pos p2 : Pos}
def eRevS (f g : FE) : FE := fun ρ => (f ρ).bind fun d => (g ρ).bind fun k => match d, k with
  | .tup ds, .int i => if i = -1 then some (.tup ds.reverse) else none
  | _, _ => none
theorem pd_revS {a st : Expr} {f g : FE} (ha : PE X a (tD X.K f)) (hst : PE X st (tD X.K g)) : PE X (.Subscript a (.Slice none none (some st) p2) pos) (tD X.K (eRevS f g)) := by
  intro pins s σ H Q I ⟨F0, H0, F, ρ, d, r, hf, q⟩
  obtain ⟨d1, h1, hf⟩ := Option.bind_eq_some_iff.mp hf
  obtain ⟨k, h2, h3⟩ := Option.bind_eq_some_iff.mp hf
  split at h3
  case h_2 => cases h3
  rename_i ds i
  split at h3
  case isFalse => cases h3
  rename_i hi
  subst hi
  cases h3
  refine Subscript_ (thn (ha pins s σ H (fun v H1 => ∃ F', Grow F H F' H1 ∧ Rep X.K F' (.tup ds) v) I ⟨F0, H0, F, ρ, _, r, h1, fun v F' H' g' r' => ⟨F', g', r'⟩⟩) fun v s1 ⟨x, H1, I1, r1, F1, g1, k1⟩ => ?_)
  refine wpAny_Slice ?_
  rw [evalPart_none]
  refine wpAny_pure ?_
  refine wpAny_pure ?_
  rw [evalPart_some]
  refine thn (hst pins s1 σ H1 (fun v H2 => ∃ F2, Grow F1 H1 F2 H2 ∧ Rep X.K F2 (.int (-1)) v) I1 ⟨F0, H0, F1, ρ, _, r.grow g1, h2, fun v F' H' g' r' => ⟨F', g', r'⟩⟩) fun u s2 ⟨y, H2, I2, r2, F2, g2, k2⟩ => ?_
  cases rep_int.mp k2
  obtain ⟨tk, rfl⟩ := r2
  obtain ⟨p, xs, rfl, k3, k4⟩ := rep_tup.mp (k1.mono g2.ff)
  cases r1
  have I4 : Inv X pins σ H2 { s2 with heap := s2.heap.push { cls := .type "slice", data := .fields #[.none, .none, .int (-1) tk] } } := I2.kept (t' := s2.toks) fun b ob q => Heap.get?_push_of_some _ q
  obtain ⟨its, rv, ht, hz⟩ := I4.tuple (same_seqT g2.fh k3)
  have hlen := rv.length
  show wpAny (model X.prog X.w) X.A (subscriptTail a (.Slice none none (some st) p2) (.ref p) (.ref s2.heap.objs.size)) (EP X pins σ Q) X.xe { s2 with heap := s2.heap.push { cls := .type "slice", data := .fields #[.none, .none, .int (-1) tk] } }
  refine tail_any (ops := [.ref p, .ref s2.heap.objs.size]) (T := "tuple") ht.typeIs PyProof.Rows.slot_tuple_getitem.lookup ?_ (by with_unfolding_all rfl)
  refine HT.getItem_tuple_rev ht (Heap.IsSliceOf.new ..) ?_ (by rw [List.size_toArray]; lia)
  have hx := I4.hok.fresh (Nat.le_refl _)
  have I5 : Inv X pins σ (upd H2 (s2.heap.push { cls := .type "slice", data := .fields #[.none, .none, .int (-1) tk] }).objs.size (.tup xs.reverse)) { s2 with heap := (s2.heap.push { cls := .type "slice", data := .fields #[.none, .none, .int (-1) tk] }).push { cls := .type "tuple", data := .seq its.toArray.toList.reverse.toArray } } :=
    I4.laid (t' := s2.toks) (fun b o e => Heap.get?_push_of_some _ e) (Nat.le_refl _) (show ObjOk X.prog X.w _ _ _ (.tup xs.reverse) from ⟨by rw [List.length_reverse]; exact hz, its.reverse, vals_rev rv, by
      rw [show its.toArray.toList = its from rfl]
      exact IsTup.new _ _⟩)
  have g3 : Grow F2 H2 (upd F2 (s2.heap.push { cls := .type "slice", data := .fields #[.none, .none, .int (-1) tk] }).objs.size (.tup xs.reverse)) (upd H2 (s2.heap.push { cls := .type "slice", data := .fields #[.none, .none, .int (-1) tk] }).objs.size (.tup xs.reverse)) := Grow.new g2.fh hx
  exact ⟨.ref _, _, I5, rfl, q _ _ _ (g1.trans (g2.trans g3)) (rep_tup.mpr ⟨_, _, rfl, SqT.of upd_same, repL_rev (k4.mono g3.ff)⟩)⟩
/-! ### None != a list -/
def oNeN : D → D → Option D
  | .non, .lst _ => some (.bl true)
  | .lst _, .non => some (.bl true)
  | _, _ => none
theorem od_neN (hu : X.A.units + 64 < cLine) : OpR X (compareOp .NotEq) (rD X.K oNeN) := by
  intro pins s σ H x y v u Q I rx ry h
  obtain ⟨F, d1, d2, d, fh, r1, r2, ho, q⟩ := h
  unfold oNeN at ho
  split at ho
  · cases ho
    cases rep_non.mp r1
    cases rx
    obtain ⟨b, ys, rfl, k3, k4⟩ := rep_lst.mp r2
    cases ry
    obtain ⟨i2, v2, t2, _⟩ := I.list (fh.seq k3)
    exact SeqAt.RcNeAt.none_list (A := X.A) t2.isList (by lia) X.prog X.w _ _ ⟨.bl _, H, I, rfl, q _ F H (.refl fh) (rep_bl.mpr rfl)⟩
  · cases ho
    cases rep_non.mp r2
    cases ry
    obtain ⟨b, ys, rfl, k3, k4⟩ := rep_lst.mp r1
    cases rx
    obtain ⟨i2, v2, t2, _⟩ := I.list (fh.seq k3)
    exact SeqAt.RcNeAt.list_none (A := X.A) t2.isList (by lia) X.prog X.w _ _ ⟨.bl _, H, I, rfl, q _ F H (.refl fh) (rep_bl.mpr rfl)⟩
  · cases ho
abbrev oNe4 : D → D → Option D := fun x y => (oNe3 x y).or (oNeN x y)
theorem od_ne4 (hu : X.A.units + 64 < cLine) : OpR X (compareOp .NotEq) (rD X.K oNe4) := opR_or (od_ne3 hu) (od_neN hu)
end
end DL

set_option maxRecDepth 100000
set_option maxHeartbeats 1000000
namespace DL
open PySem L2
/-! ### what the operations give on ints -/
theorem dec_int' (a b : Int) : decide (V.int a = V.int b) = decide (a = b) := decide_eq_decide.mpr ⟨fun h => by injection h, fun h => by rw [h]⟩
theorem oEq_int (a b : Int) : oEq (.int a) (.int b) = some (.bl (decide (a = b))) := by
  simp only [oEq, oEqF, flD, scal, Option.bind_some, if_true, Option.some_or, dec_int']
theorem oNe_int (a b : Int) : oNeF (.int a) (.int b) = some (.bl (!decide (a = b))) := by
  simp only [oNeF, flD, scal, Option.bind_some, if_true, dec_int']
theorem oEq_bl (a b : Bool) : oEq (.bl a) (.bl b) = some (.bl (a == b)) := by
  cases a <;> cases b <;> rfl
theorem oMod_int (a b : Int) (h : 0 < b) : oMod (.int a) (.int b) = some (.int (a % b)) := by simp [oMod, oI, h]
theorem oDiv_int (a b : Int) (h : 0 < b) (h2 : b < 1073741824) : oDiv (.int a) (.int b) = some (.int (a / b)) := by simp [oDiv, oI, h, h2]
theorem oPlus_int (a b : Int) : oPlus (.int a) (.int b) = some (.int (a + b)) := rfl
theorem oSub_int (a b : Int) : oSub (.int a) (.int b) = some (.int (a - b)) := rfl
theorem oLt_int (a b : Int) : oLt' (.int a) (.int b) = some (.bl (decide (a < b))) := rfl
theorem oLe_int (a b : Int) : oLe (.int a) (.int b) = some (.bl (decide (a ≤ b))) := rfl
theorem oGt_int (a b : Int) : oGt (.int a) (.int b) = some (.bl (decide (b < a))) := rfl
theorem oGe_int (a b : Int) : oGe (.int a) (.int b) = some (.bl (decide (b ≤ a))) := rfl
theorem oMin_int (a b : Int) : oMin [.int a, .int b] = some (.int (if b < a then b else a)) := rfl
theorem oPlus_tup (xs ys : List D) (h : xs.length + ys.length ≤ 1000000) : oPlus (.tup xs) (.tup ys) = some (.tup (xs ++ ys)) := by
  show (oAdd (.tup xs) (.tup ys)).or (oCat (.tup xs) (.tup ys)) = _
  simp only [oAdd, oI, Option.none_or, oCat, lim, if_pos h]
theorem oPlus_lst (xs ys : List D) (h : xs.length + ys.length ≤ 1000000) : oPlus (.lst xs) (.lst ys) = some (.lst (xs ++ ys)) := by
  show (oAdd (.lst xs) (.lst ys)).or (oCat (.lst xs) (.lst ys)) = _
  simp only [oAdd, oI, Option.none_or, oCat, lim, if_pos h]
theorem oShl_int (a b : Int) (h : 0 ≤ b) (h2 : b ≤ 1000000) (h3 : a.natAbs < 2 ^ 64) : oShl (.int a) (.int b) = some (.int (a * 2 ^ b.toNat)) := by simp [oShl, oI, h, h2, h3]
theorem oShr_int (a b : Int) (h : 0 ≤ b) : oShr (.int a) (.int b) = some (.int (a / 2 ^ b.toNat)) := by simp [oShr, oI, h]
theorem oPow_int (a b : Int) (h : 0 ≤ b) (h2 : b ≤ 1000000) (h3 : a.natAbs < 2 ^ 64) : oPow (.int a) (.int b) = some (.int (a ^ b.toNat)) := by simp [oPow, oI, h, h2, h3]
theorem oSum_ints (ns : List Int) : oSum [.lst (ns.map .int)] = some (.int ns.sum) := by simp [oSum, o1L, intsD_map]
theorem oAll_bools (bs : List Bool) : oAll [.lst (bs.map .bl)] = some (.bl (bs.all id)) := by simp [oAll, o1L, boolsD_map]
theorem oAny_bools (bs : List Bool) : oAny [.lst (bs.map .bl)] = some (.bl (bs.any id)) := by simp [oAny, o1L, boolsD_map]
theorem atI_pos {α : Type} {xs : List α} {i : Int} (h0 : 0 ≤ i) : atI xs i = xs[i.toNat]? := by
  unfold atI ixN
  rw [if_pos h0]
  by_cases h : i < xs.length
  · rw [if_pos h]; rfl
  · rw [if_neg h, List.getElem?_eq_none (by omega)]; rfl
theorem atI_neg1 {α : Type} (xs : List α) : atI xs (-1) = xs.getLast? := by
  unfold atI ixN
  rw [if_neg (by decide)]
  cases xs with
  | nil => rfl
  | cons a r =>
    rw [if_pos (by simp only [List.length_cons]; omega)]
    show (a :: r)[((-1 : Int) + ((a :: r).length : Nat)).toNat]? = _
    rw [List.getLast?_eq_getElem?]
    congr 1
    simp only [List.length_cons]; omega
/-! ### loops -/
section
variable {b : FB} {body : FS} {d : D} {ds : List D} {ρ ρ1 ρ2 : Rho}
theorem runFor_nil : runFor b body [] ρ = some (.nx, ρ) := rfl
theorem runFor_nx (h1 : b d ρ = some ρ1) (h2 : body ρ1 = some (.nx, ρ2)) : runFor b body (d :: ds) ρ = runFor b body ds ρ2 := by simp only [runFor, h1, h2, Option.bind_some]
theorem runFor_rt {v : D} (h1 : b d ρ = some ρ1) (h2 : body ρ1 = some (.rt v, ρ2)) : runFor b body (d :: ds) ρ = some (.rt v, ρ2) := by simp only [runFor, h1, h2, Option.bind_some]
/-- a loop whose body goes on, by an invariant -/
theorem runFor_inv (P : Rho → Prop) (h0 : P ρ) (hs : ∀ d ∈ ds, ∀ ρ, P ρ → ∃ ρ1 ρ2, b d ρ = some ρ1 ∧ body ρ1 = some (.nx, ρ2) ∧ P ρ2) : ∃ ρ', runFor b body ds ρ = some (.nx, ρ') ∧ P ρ' := by
  induction ds generalizing ρ with
  | nil => exact ⟨ρ, rfl, h0⟩
  | cons d ds ih =>
    obtain ⟨ρ1, ρ2, e1, e2, p2⟩ := hs d List.mem_cons_self ρ h0
    rw [runFor_nx e1 e2]
    exact ih p2 fun e he => hs e (List.mem_cons_of_mem _ he)
end
/-! ### comprehensions -/
theorem runComp_eq {b : FB} {c : FT} {f : FE} {ρ : Rho} (p : D → Bool) (g : D → D) : ∀ {ds : List D}, (∀ d ∈ ds, ∃ ρ1, b d ρ = some ρ1 ∧ c ρ1 = some (p d) ∧ (p d = true → f ρ1 = some (g d))) → runComp b c f ρ ds = some ((ds.filter p).map g)
  | [], _ => rfl
  | d :: ds, h => by
    obtain ⟨ρ1, e1, e2, e3⟩ := h d List.mem_cons_self
    have ih := runComp_eq p g fun e he => h e (List.mem_cons_of_mem _ he)
    simp only [runComp, e1, e2, Option.bind_some]
    cases hp : p d with
    | true => simp only [if_true, e3 hp, Option.bind_some, ih, Option.map_some, List.filter_cons, hp, List.map_cons]
    | false => simp only [Bool.false_eq_true, if_false, ih, List.filter_cons, hp]
theorem runComp_map {b : FB} {f : FE} {ρ : Rho} (g : D → D) {ds : List D} (h : ∀ d ∈ ds, ∃ ρ1, b d ρ = some ρ1 ∧ f ρ1 = some (g d)) : runComp b cTrue f ρ ds = some (ds.map g) := by
  have := runComp_eq (b := b) (c := cTrue) (f := f) (ρ := ρ) (fun _ => true) g (ds := ds) fun d hd => let ⟨ρ1, e1, e2⟩ := h d hd; ⟨ρ1, e1, rfl, fun _ => e2⟩
  rw [List.filter_eq_self.mpr (fun _ _ => rfl)] at this
  exact this
theorem rangeD_succ (lo : Int) (n : Nat) : rangeD lo (n + 1) = .int lo :: rangeD (lo + 1) n := by
  unfold rangeD
  rw [List.range_succ_eq_map, List.map_cons, List.map_map]
  congr 1
  · simp
  · apply List.map_congr_left
    intro a _
    simp only [Function.comp, Nat.succ_eq_add_one, Int.natCast_add]
    congr 1
    omega
theorem rangeD_len (lo : Int) (n : Nat) : (rangeD lo n).length = n := by simp [rangeD]
theorem iR1_int (fa : FA) (ρ : Rho) (j : Int) (h : fa ρ = some [.int j]) (h1 : -(2 ^ 62) ≤ j) (h2 : j < 2 ^ 62) : iR1 fa ρ = some (rangeD 0 j.toNat) := by
  simp only [iR1, h, Option.bind_some, decide_eq_true h1, decide_eq_true h2, Bool.and_self, if_true]
theorem cut_none_to {α : Type} (xs : List D) (k : Nat) : cutD xs none (some (k : Int)) = xs.take k := by
  unfold cutD
  rw [HT.sIx_nat, HT.sIx_none]
  simp only [List.drop_zero, Nat.sub_zero]
  by_cases h : k ≤ xs.length
  · rw [Nat.min_eq_left h]
  · rw [Nat.min_eq_right (by omega), List.take_length, List.take_of_length_le (by omega)]
theorem cut_from {α : Type} (xs : List D) (k : Nat) : cutD xs (some (k : Int)) none = xs.drop k := by
  unfold cutD
  rw [HT.sIx_nat, HT.sIx_none]
  by_cases h : k ≤ xs.length
  · rw [Nat.min_eq_left h, List.take_of_length_le (by rw [List.length_drop]; exact Nat.le_refl _)]
  · rw [Nat.min_eq_right (by omega), List.drop_length, List.drop_eq_nil_of_le (by omega)]; simp
end DL

set_option maxRecDepth 100000
set_option maxHeartbeats 1000000
namespace DL
open PySem L2
/-! ### a reading run step by step -/
section
variable {ρ ρ1 ρ' : Rho} {f g : FE} {d x y z : D} {i n m ar : Nat} {fa fk : FA} {ds es : List D} {t t2 : FT} {c : Bool} {u w : FS} {r : Option (Fl × Rho)}
theorem x_c : eC d ρ = some d := rfl
theorem x_v (h : ρ[i]? = some (some (.fz d))) : eV i ρ = some d := by unfold eV; rw [h]
theorem x_op {o : D → D → Option D} (h1 : f ρ = some x) (h2 : g ρ = some y) (h3 : o x y = some z) : eOp o f g ρ = some z := by unfold eOp; rw [h1, Option.bind_some, h2, Option.bind_some, h3]
theorem x_un {o : D → Option D} (h1 : f ρ = some x) (h3 : o x = some z) : eUn o f ρ = some z := by unfold eUn; rw [h1, Option.bind_some, h3]
theorem x_nil : aNil ρ = some [] := rfl
theorem x_cons (h1 : f ρ = some d) (h2 : fa ρ = some ds) : aCons f fa ρ = some (d :: ds) := by unfold aCons; rw [h1, Option.bind_some, h2, Option.map_some]
theorem x_app (h1 : fa ρ = some ds) (h2 : fk ρ = some es) (hn : ds.length = n) (hm : es.length = m) : aApp n m fa fk ρ = some (ds ++ es) := by unfold aApp; rw [h1, Option.bind_some, h2, Option.bind_some, if_pos ⟨hn, hm⟩]
theorem x_call {o : List D → Option D} (h1 : fa ρ = some ds) (h2 : o ds = some d) : eCall o fa ρ = some d := by unfold eCall; rw [h1, Option.bind_some, h2]
theorem x_cald {o : List D → Option D} {dds : List D} (h1 : fa ρ = some ds) (hl : (ds ++ dds).length = ar) (h2 : o (ds ++ dds) = some d) : eCall (callD ar dds o) fa ρ = some d := by unfold eCall callD; rw [h1, Option.bind_some, if_pos hl, h2]
theorem x_calk {o : List D → Option D} (h1 : fa ρ = some ds) (hl : ds.length = ar) (h2 : o ds = some d) : eCall (callK ar o) fa ρ = some d := by unfold eCall callK; rw [h1, Option.bind_some, if_pos hl, h2]
theorem x_tup (h1 : fa ρ = some ds) (hl : ds.length ≤ lim) : eTup fa ρ = some (.tup ds) := by unfold eTup; rw [h1, Option.bind_some, if_pos hl]
theorem x_lst (h1 : fa ρ = some ds) (hl : ds.length ≤ lim) : lLst fa ρ = some ds := by unfold lLst; rw [h1, Option.bind_some, if_pos hl]
theorem x_l (h1 : fa ρ = some ds) : eL fa ρ = some (.lst ds) := by unfold eL; rw [h1, Option.map_some]
theorem x_lcall {o : List D → Option (List D)} (h1 : fa ρ = some ds) (h2 : o ds = some es) : lCall o fa ρ = some es := by unfold lCall; rw [h1, Option.bind_some, h2]
theorem x_not (h1 : f ρ = some (.bl c)) : eNot f ρ = some (.bl (!c)) := by unfold eNot; rw [h1, Option.bind_some]; rfl
theorem x_and_t (h1 : f ρ = some (.bl c)) (hc : c = true) (h2 : g ρ = some d) : eAnd f g ρ = some d := by subst hc; unfold eAnd; rw [h1, Option.bind_some]; exact h2
theorem x_and_f (h1 : f ρ = some (.bl c)) (hc : c = false) : eAnd f g ρ = some (.bl false) := by subst hc; unfold eAnd; rw [h1, Option.bind_some]; rfl
theorem x_or_t (h1 : f ρ = some (.bl c)) (hc : c = true) : eOr f g ρ = some (.bl true) := by subst hc; unfold eOr; rw [h1, Option.bind_some]; rfl
theorem x_or_f (h1 : f ρ = some (.bl c)) (hc : c = false) (h2 : g ρ = some d) : eOr f g ρ = some d := by subst hc; unfold eOr; rw [h1, Option.bind_some]; exact h2
theorem x_ife_t (h1 : t ρ = some c) (hc : c = true) (h2 : f ρ = some d) : eIf t f g ρ = some d := by subst hc; unfold eIf; rw [h1, Option.bind_some]; exact h2
theorem x_ife_f (h1 : t ρ = some c) (hc : c = false) (h2 : g ρ = some d) : eIf t f g ρ = some d := by subst hc; unfold eIf; rw [h1, Option.bind_some]; exact h2
theorem x_isi {T : Ty} (h1 : f ρ = some d) : eIsi T f ρ = some (.bl (isiD T d)) := by unfold eIsi; rw [h1, Option.map_some]
theorem x_no : oNo ρ = some none := rfl
theorem x_at {k : Int} (h1 : f ρ = some (.int k)) : oAt f ρ = some (some k) := by unfold oAt; rw [h1, Option.bind_some]
theorem x_sl {lo hi : FO} {a b : Option Int} (h1 : f ρ = some x) (h2 : lo ρ = some a) (h3 : hi ρ = some b) (h4 : oSl x a b = some y) : eSl f lo hi ρ = some y := by unfold eSl; rw [h1, Option.bind_some, h2, Option.bind_some, h3, Option.bind_some, h4]
theorem x_comp {it : FA} {cap : List (Option Nat)} {b : FB} {q : FT} (h1 : it ρ = some ds) (hl : ds.length ≤ lim) (h2 : runComp b q f (capR cap ρ) ds = some es) : lComp it cap b q f ρ = some es := by unfold lComp; rw [h1, Option.bind_some, if_pos hl, h2]
theorem x_iseq (h1 : f ρ = some d) (h2 : seqD d = some ds) : iSeq f ρ = some ds := by unfold iSeq; rw [h1, Option.bind_some, h2]
theorem x_izip {xs ys : List D} (h1 : fa ρ = some [x, y]) (h2 : seqD x = some xs) (h3 : seqD y = some ys) : iZip fa ρ = some (zipD xs ys) := by unfold iZip; rw [h1, Option.bind_some]; simp only [h2, h3, Option.bind_some, Option.map_some]
/-! tests -/
theorem x_cmp {o : D → D → Option D} (h1 : f ρ = some x) (h2 : g ρ = some y) (h3 : o x y = some (.bl c)) : bCmp o f g ρ = some c := by unfold bCmp; rw [x_op h1 h2 h3, Option.bind_some]; rfl
theorem x_bt (h1 : f ρ = some d) (h2 : truD d = some c) : bT f ρ = some c := by unfold bT; rw [h1, Option.bind_some, h2]
theorem x_bnot (h1 : t ρ = some c) : bNot t ρ = some (!c) := by unfold bNot; rw [h1, Option.map_some]
theorem x_band_t {e : Bool} (h1 : t ρ = some c) (hc : c = true) (h2 : t2 ρ = some e) : bAnd t t2 ρ = some e := by subst hc; unfold bAnd; rw [h1, Option.bind_some]; exact h2
theorem x_band_f (h1 : t ρ = some c) (hc : c = false) : bAnd t t2 ρ = some false := by subst hc; unfold bAnd; rw [h1, Option.bind_some]; rfl
theorem x_bor_t (h1 : t ρ = some c) (hc : c = true) : bOr t t2 ρ = some true := by subst hc; unfold bOr; rw [h1, Option.bind_some]; rfl
theorem x_bor_f {e : Bool} (h1 : t ρ = some c) (hc : c = false) (h2 : t2 ρ = some e) : bOr t t2 ρ = some e := by subst hc; unfold bOr; rw [h1, Option.bind_some]; exact h2
/-! statements -/
theorem x_seq (h1 : u ρ = some (.nx, ρ1)) (h2 : w ρ1 = r) : sSeq u w ρ = r := by unfold sSeq; rw [h1, Option.bind_some]; exact h2
theorem x_seqr (h1 : u ρ = some (.rt d, ρ1)) : sSeq u w ρ = some (.rt d, ρ1) := by unfold sSeq; rw [h1, Option.bind_some]
theorem x_if_t (h1 : t ρ = some c) (hc : c = true) (h2 : u ρ = r) : sIf t u w ρ = r := by subst hc; unfold sIf; rw [h1, Option.bind_some]; exact h2
theorem x_if_f (h1 : t ρ = some c) (hc : c = false) (h2 : w ρ = r) : sIf t u w ρ = r := by subst hc; unfold sIf; rw [h1, Option.bind_some]; exact h2
theorem x_ret (h1 : f ρ = some d) : sRet f ρ = some (.rt d, ρ) := by unfold sRet; rw [h1, Option.map_some]
theorem x_snil : sNil ρ = some (.nx, ρ) := rfl
theorem x_set (h1 : f ρ = some d) : sSet i f ρ = some (.nx, ρ.set i (some (.fz d))) := by unfold sSet; rw [h1, Option.map_some]
theorem x_own (h1 : fa ρ = some ds) : sOwn i fa ρ = some (.nx, ρ.set i (some (.ow ds))) := by unfold sOwn; rw [h1, Option.map_some]
theorem x_append (h0 : ρ[i]? = some (some (.ow ds))) (h1 : f ρ = some d) (hl : ds.length < lim) : sApp i f ρ = some (.nx, ρ.set i (some (.ow (ds ++ [d])))) := by unfold sApp owAt; rw [h0]; simp only [Option.bind_some, h1, if_pos hl]
theorem x_for {it : FA} {b : FB} {body : FS} (h1 : it ρ = some ds) (h2 : runFor b body ds ρ = r) : sFor it b body ρ = r := by unfold sFor; rw [h1, Option.bind_some]; exact h2
theorem x_frz (h1 : frz i ρ = ρ1) (h2 : u ρ1 = r) : sFrz i u ρ = r := by unfold sFrz; rw [h1]; exact h2
theorem x_bind {b : FB} (h1 : f ρ = some d) (h2 : b d ρ = some ρ1) : sBind f b ρ = some (.nx, ρ1) := by unfold sBind; rw [h1, Option.bind_some, h2, Option.map_some]
theorem run_rt (h : u (ds.map (fun d => some (.fz d)) ++ List.replicate (n - ds.length) none) = some (.rt d, ρ')) : runFn n u ds = some d := by unfold runFn; rw [h]
end
end DL

set_option maxRecDepth 100000
set_option maxHeartbeats 1000000
namespace DL
open PySem L2
/-! ### a reading run by simp -/
theorem eV0 (d : D) (r : Rho) : eV 0 (some (.fz d) :: r) = some d := rfl
theorem eVs (i : Nat) (x : Option B) (r : Rho) : eV (i + 1) (x :: r) = eV i r := rfl
theorem oLenT (ds : List D) : oLen [.tup ds] = some (.int ds.length) := rfl
theorem oLenL (ds : List D) : oLen [.lst ds] = some (.int ds.length) := rfl
theorem oAtD (i : Int) : (match D.int i with | .int i => some (some i) | _ => none : Option (Option Int)) = some (some i) := rfl
theorem frz0 (ds : List D) (r : Rho) : frz 0 (some (.ow ds) :: r) = some (.fz (.lst ds)) :: r := rfl
theorem frzs (i : Nat) (x : Option B) (r : Rho) : frz (i + 1) (x :: r) = x :: frz i r := by
  unfold frz
  rw [List.getElem?_cons_succ]
  cases h : r[i]? with
  | none => rfl
  | some y =>
    cases y with
    | none => rfl
    | some z => cases z <;> rfl
theorem oTimes_int (a b : Int) (h : -(2 ^ 64) < b ∧ b < 2 ^ 64) : oTimes (.int a) (.int b) = some (.int (a * b)) := by
  have h2 : (decide (-(2 ^ 64) < b) && decide (b < 2 ^ 64)) = true := by rw [decide_eq_true h.1, decide_eq_true h.2]; rfl
  show (if ((decide (-(2 ^ 64) < a) && decide (a < 2 ^ 64)) || (decide (-(2 ^ 64) < b) && decide (b < 2 ^ 64))) = true then some (D.int (a * b)) else none).or _ = _
  rw [h2, Bool.or_true, if_pos rfl, Option.some_or]
theorem oTimes_intL (a b : Int) (h : -(2 ^ 64) < a ∧ a < 2 ^ 64) : oTimes (.int a) (.int b) = some (.int (a * b)) := by
  have h2 : (decide (-(2 ^ 64) < a) && decide (a < 2 ^ 64)) = true := by rw [decide_eq_true h.1, decide_eq_true h.2]; rfl
  show (if ((decide (-(2 ^ 64) < a) && decide (a < 2 ^ 64)) || (decide (-(2 ^ 64) < b) && decide (b < 2 ^ 64))) = true then some (D.int (a * b)) else none).or _ = _
  rw [h2, Bool.true_or, if_pos rfl, Option.some_or]
theorem oIxL (ds : List D) (i : Int) : oIx (.lst ds) (.int i) = atI ds i := rfl
theorem oIxT (ds : List D) (i : Int) : oIx (.tup ds) (.int i) = atI ds i := rfl
theorem atI_lit {α : Type} (xs : List α) (n : Nat) : atI xs (no_index (OfNat.ofNat n : Int)) = xs[n]? := by
  show atI xs (n : Int) = xs[n]?
  rw [atI_pos (show (0 : Int) ≤ (n : Int) by omega)]
  rfl
theorem atI_nat' {α : Type} (xs : List α) (n : Nat) : atI xs (n : Int) = xs[n]? := by
  rw [atI_pos (show (0 : Int) ≤ (n : Int) by omega)]
  rfl
theorem oList_l (ds : List D) : oList [.lst ds] = some ds := rfl
theorem oList_t (ds : List D) : oList [.tup ds] = some ds := rfl
theorem oTuple_l (ds : List D) : oTuple [.lst ds] = some (.tup ds) := rfl
theorem oTuple_t (ds : List D) : oTuple [.tup ds] = some (.tup ds) := rfl
theorem owAt0 (ds : List D) (r : Rho) : owAt 0 (some (.ow ds) :: r) = some ds := rfl
theorem owAts (i : Nat) (x : Option B) (r : Rho) : owAt (i + 1) (x :: r) = owAt i r := rfl
theorem run_ok {n : Nat} {u : FS} {ds : List D} {d : D} (h : (u (ds.map (fun d => some (.fz d)) ++ List.replicate (n - ds.length) none)).map Prod.fst = some (.rt d)) : runFn n u ds = some d := by
  cases e : u (ds.map (fun d => some (.fz d)) ++ List.replicate (n - ds.length) none) with
  | none => rw [e] at h; cases h
  | some p =>
    obtain ⟨fl, ρ'⟩ := p
    rw [e] at h
    have h' : fl = .rt d := by simpa using h
    subst h'
    exact run_rt e
theorem ex_run {n : Nat} {u : FS} {ds : List D} {d : D} {P : D → Prop} (h : (u (ds.map (fun d => some (.fz d)) ++ List.replicate (n - ds.length) none)).map Prod.fst = some (.rt d)) (p : P d) : ∃ d, runFn n u ds = some d ∧ P d := ⟨d, run_ok h, p⟩
theorem oInt_t : oInt [.bl true] = some (.int 1) := rfl
theorem oInt_f : oInt [.bl false] = some (.int 0) := rfl
theorem isi_all : isiD .int .non = false ∧ (∀ b : Bool, isiD .int (.bl b) = true) ∧ (∀ i : Int, isiD .int (.int i) = true) ∧ (∀ x : Str, isiD .int (.str x) = false) ∧ (∀ ds : List D, isiD .int (.tup ds) = false) ∧ (∀ ds : List D, isiD .int (.lst ds) = false) ∧ (∀ (ks : List Key) (vs : List D), isiD .int (.dct ks vs) = false) ∧ (∀ (ks : List (List Int)) (vs : List D), isiD .int (.dtt ks vs) = false) ∧ isiD .bool .non = false ∧ (∀ b : Bool, isiD .bool (.bl b) = true) ∧ (∀ i : Int, isiD .bool (.int i) = false) ∧ (∀ x : Str, isiD .bool (.str x) = false) ∧ (∀ ds : List D, isiD .bool (.tup ds) = false) ∧ (∀ ds : List D, isiD .bool (.lst ds) = false) ∧ (∀ (ks : List Key) (vs : List D), isiD .bool (.dct ks vs) = false) ∧ (∀ (ks : List (List Int)) (vs : List D), isiD .bool (.dtt ks vs) = false) ∧ isiD .tuple .non = false ∧ (∀ b : Bool, isiD .tuple (.bl b) = false) ∧ (∀ i : Int, isiD .tuple (.int i) = false) ∧ (∀ x : Str, isiD .tuple (.str x) = false) ∧ (∀ ds : List D, isiD .tuple (.tup ds) = true) ∧ (∀ ds : List D, isiD .tuple (.lst ds) = false) ∧ (∀ (ks : List Key) (vs : List D), isiD .tuple (.dct ks vs) = false) ∧ (∀ (ks : List (List Int)) (vs : List D), isiD .tuple (.dtt ks vs) = false) ∧ isiD .list .non = false ∧ (∀ b : Bool, isiD .list (.bl b) = false) ∧ (∀ i : Int, isiD .list (.int i) = false) ∧ (∀ x : Str, isiD .list (.str x) = false) ∧ (∀ ds : List D, isiD .list (.tup ds) = false) ∧ (∀ ds : List D, isiD .list (.lst ds) = true) ∧ (∀ (ks : List Key) (vs : List D), isiD .list (.dct ks vs) = false) ∧ (∀ (ks : List (List Int)) (vs : List D), isiD .list (.dtt ks vs) = false) ∧ isiD .str .non = false ∧ (∀ b : Bool, isiD .str (.bl b) = false) ∧ (∀ i : Int, isiD .str (.int i) = false) ∧ (∀ x : Str, isiD .str (.str x) = true) ∧ (∀ ds : List D, isiD .str (.tup ds) = false) ∧ (∀ ds : List D, isiD .str (.lst ds) = false) ∧ (∀ (ks : List Key) (vs : List D), isiD .str (.dct ks vs) = false) ∧ (∀ (ks : List (List Int)) (vs : List D), isiD .str (.dtt ks vs) = false) ∧ isiD .dict .non = false ∧ (∀ b : Bool, isiD .dict (.bl b) = false) ∧ (∀ i : Int, isiD .dict (.int i) = false) ∧ (∀ x : Str, isiD .dict (.str x) = false) ∧ (∀ ds : List D, isiD .dict (.tup ds) = false) ∧ (∀ ds : List D, isiD .dict (.lst ds) = false) ∧ (∀ (ks : List Key) (vs : List D), isiD .dict (.dct ks vs) = true) ∧ (∀ (ks : List (List Int)) (vs : List D), isiD .dict (.dtt ks vs) = true) := by
  refine ⟨?_, ?_, ?_, ?_, ?_, ?_, ?_, ?_, ?_, ?_, ?_, ?_, ?_, ?_, ?_, ?_, ?_, ?_, ?_, ?_, ?_, ?_, ?_, ?_, ?_, ?_, ?_, ?_, ?_, ?_, ?_, ?_, ?_, ?_, ?_, ?_, ?_, ?_, ?_, ?_, ?_, ?_, ?_, ?_, ?_, ?_, ?_, ?_⟩ <;> intros <;> rfl
theorem oTimes_rep (xs : List D) (n : Nat) (hn : n ≤ 1000000) (h : xs.length * n ≤ 1000000) : oTimes (.tup xs) (.int (n : Int)) = some (.tup (List.replicate n xs).flatten) := by
  have e1 : oMul (.tup xs) (.int (n : Int)) = none := rfl
  have e2 : oRep (.tup xs) (.int (n : Int)) = some (.tup (List.replicate n xs).flatten) := by
    unfold oRep
    simp only [Int.toNat_natCast]
    rw [if_pos]
    rw [Bool.and_eq_true, Bool.and_eq_true]
    exact ⟨⟨decide_eq_true (by omega), decide_eq_true (by omega)⟩, decide_eq_true h⟩
  unfold oTimes
  rw [e1, e2, Option.none_or]
theorem mod_nat {x : Int} {n : Nat} (hn : 0 < n) : ∃ k : Nat, k < n ∧ oMod (.int x) (.int (n : Int)) = some (.int (k : Int)) := by
  have h1 := Int.emod_nonneg x (show (n : Int) ≠ 0 by omega)
  have h2 := Int.emod_lt_of_pos x (show (0 : Int) < (n : Int) by omega)
  refine ⟨(x % n).toNat, by omega, ?_⟩
  rw [oMod_int _ _ (by omega), Int.toNat_of_nonneg h1]
end DL

namespace My
open PySem PySem.Spec PyProof.Rows L2 DL
def top (i : Nat) : Stmt := PySem.Challenge.pw_oftentogether_k62_places.main.body.getD i (.Pass ⟨0, 0, 0, 0⟩)
def topM (i j : Nat) : Stmt := match top i with | .ClassDef _ _ _ body _ _ _ _ _ _ _ => body.getD j (.Pass ⟨0, 0, 0, 0⟩) | x => x
section
variable [Lam] {P : Program} {w : World} {K : Frag} {mg : Str → Option Value} {base : Heap}
abbrev s_law_cell : Stmt := top 9
def N_law_cell : List Str := ["_law_script", "_law_k"]
theorem nd_law_cell : (N_law_cell).Nodup := by decide +kernel
theorem sc_law_cell : FnScope N_law_cell ["_law_script", "_law_k"] (defScope s_law_cell) := ⟨rfl, rfl, rfl, nd_law_cell, rfl, by decide +kernel, by decide +kernel⟩
def u_law_cell : FS := (sSeq (sIf (bCmp oLt' (eV 1) (eCall oLen (aCons (eV 0) aNil))) (sRet (eOp oIx (eV 0) (eV 1))) sNil) (sRet (eC (.int 0))))
def f_law_cell : List D → Option D := runFn 2 u_law_cell
set_option maxHeartbeats 4000000 in
theorem bd_law_cell {fa : Addr} {cdv : Value} {A : Around} {outer : List Env} {s : Shared} {H : Hp} {E : XK} (n_len : mg "len" = none) (hr : Room 0 (A.deeper (envOfC "_law_cell" (defScope s_law_cell) s.heap.objs.size fa cdv))) :
    PSs (cxOf CX0 P w K mg base N_law_cell "_law_cell" (defScope s_law_cell) fa cdv A outer s H E).nox (defBody s_law_cell) (tDS K u_law_cell) := by
  unfold u_law_cell
  refine (sd_cons ?_ ?_); (focus (refine (sd_if ?_ (sd_one ?_) sd_nil); (focus (refine (td_cmp od_lt' ?_ ?_); (focus (exact (pd_var (pv 1)))); (focus (refine (pd_callB (cd_len) rfl n_len DL.boot_len' ?_); (focus ((refine ad_cons (hs := ?hs) ?a ?_); (case hs => exact star_ns rfl); (case a => (exact (pd_var (pv 0)))); exact ad_nil)))))); (focus (refine (sd_ret ?_); (focus (refine (pd_ix ?_ ?_); (focus (exact (pd_var (pv 0)))); (focus (exact (pd_var (pv 1)))))))))); (focus (refine (sd_one ?_); (focus (exact (sd_ret pd_int)))))
theorem ok_law_cell {fa : Addr} {dV : Value} {fd : FuncData} (F : Fun2 K "_law_cell" "_law_cell" s_law_cell dV fa fd) (n_len : mg "len" = none) : FnOk P w K mg base CX0 1 fa fd ["_law_script", "_law_k"] (spD K 2 f_law_cell) :=
  F.okn (k := 0) (n := 2) (ar := 2) (k1 := 1) (u := u_law_cell) sc_law_cell rfl rfl rfl fun cdv A outer s H E hr => (by first | (with_reducible exact bd_law_cell n_len hr) | exact bd_law_cell n_len hr)
abbrev s_law_mixed : Stmt := top 10
def N_law_mixed : List Str := ["_law_cell_here", "_law_k", "_law_first", "_law_second"]
theorem nd_law_mixed : (N_law_mixed).Nodup := by decide +kernel
theorem sc_law_mixed : FnScope N_law_mixed ["_law_cell_here", "_law_k"] (defScope s_law_mixed) := ⟨rfl, rfl, rfl, nd_law_mixed, rfl, by decide +kernel, by decide +kernel⟩
def u_law_mixed : FS := (sSeq (sSet 2 (eOp oMod (eOp oPlus (eOp oPlus (eOp oTimes (eOp oMod (eV 0) (eC (.int 2147483629))) (eC (.int 48271))) (eOp oTimes (eOp oTimes (eV 1) (eV 1)) (eC (.int 7919)))) (eC (.int 104729))) (eC (.int 2147483647)))) (sSeq (sSet 3 (eOp oMod (eOp oTimes (eV 2) (eV 2)) (eC (.int 2147483629)))) (sRet (eOp oMod (eOp oTimes (eOp oMod (eOp oPlus (eOp oPlus (eOp oTimes (eV 3) (eC (.int 69621))) (eOp oTimes (eV 1) (eC (.int 40692)))) (eC (.int 7))) (eC (.int 2147483587))) (eV 3)) (eC (.int 2147483579))))))
def f_law_mixed : List D → Option D := runFn 4 u_law_mixed
set_option maxHeartbeats 4000000 in
theorem bd_law_mixed {fa : Addr} {cdv : Value} {A : Around} {outer : List Env} {s : Shared} {H : Hp} {E : XK}  (hr : Room 0 (A.deeper (envOfC "_law_mixed" (defScope s_law_mixed) s.heap.objs.size fa cdv))) :
    PSs (cxOf CX0 P w K mg base N_law_mixed "_law_mixed" (defScope s_law_mixed) fa cdv A outer s H E).nox (defBody s_law_mixed) (tDS K u_law_mixed) := by
  unfold u_law_mixed
  refine (sd_cons ?_ ?_); (focus (refine (sd_set (i := 2) ?_ ?_ ?_ ?_ ?_ ?_); (focus (exact nd_law_mixed)); (focus (exact rfl)); (focus (exact (Or.inl rfl))); (focus (refine (pd_op od_mod ?_ pd_int); (focus (refine (pd_op od_plus ?_ pd_int); (focus (refine (pd_op od_plus ?_ ?_); (focus (refine (pd_op od_times ?_ pd_int); (focus (refine (pd_op od_mod ?_ pd_int); (focus (exact (pd_var (pv 0)))))))); (focus (refine (pd_op od_times ?_ pd_int); (focus (refine (pd_op od_times ?_ ?_); (focus (exact (pd_var (pv 1)))); (focus (exact (pd_var (pv 1)))))))))))))); (focus (exact rfl)); (focus (exact (by first | exact .inl rfl | exact .inr rfl | assumption))))); (focus (refine (sd_cons ?_ ?_); (focus (refine (sd_set (i := 3) ?_ ?_ ?_ ?_ ?_ ?_); (focus (exact nd_law_mixed)); (focus (exact rfl)); (focus (exact (Or.inl rfl))); (focus (refine (pd_op od_mod ?_ pd_int); (focus (refine (pd_op od_times ?_ ?_); (focus (exact (pd_var (pv 2)))); (focus (exact (pd_var (pv 2)))))))); (focus (exact rfl)); (focus (exact (by first | exact .inl rfl | exact .inr rfl | assumption))))); (focus (refine (sd_one ?_); (focus (refine (sd_ret ?_); (focus (refine (pd_op od_mod ?_ pd_int); (focus (refine (pd_op od_times ?_ ?_); (focus (refine (pd_op od_mod ?_ pd_int); (focus (refine (pd_op od_plus ?_ pd_int); (focus (refine (pd_op od_plus ?_ ?_); (focus (refine (pd_op od_times ?_ pd_int); (focus (exact (pd_var (pv 3)))))); (focus (refine (pd_op od_times ?_ pd_int); (focus (exact (pd_var (pv 1)))))))))))); (focus (exact (pd_var (pv 3))))))))))))))
theorem ok_law_mixed {fa : Addr} {dV : Value} {fd : FuncData} (F : Fun2 K "_law_mixed" "_law_mixed" s_law_mixed dV fa fd)  : FnOk P w K mg base CX0 1 fa fd ["_law_cell_here", "_law_k"] (spD K 2 f_law_mixed) :=
  F.okn (k := 0) (n := 4) (ar := 2) (k1 := 1) (u := u_law_mixed) sc_law_mixed rfl rfl rfl fun cdv A outer s H E hr => (by first | (with_reducible exact bd_law_mixed  hr) | exact bd_law_mixed  hr)
abbrev s_law_many_moments : Stmt := top 13
def N_law_many_moments : List Str := ["_law_script"]
theorem nd_law_many_moments : (N_law_many_moments).Nodup := by decide +kernel
theorem sc_law_many_moments : FnScope N_law_many_moments ["_law_script"] (defScope s_law_many_moments) := ⟨rfl, rfl, rfl, nd_law_many_moments, rfl, by decide +kernel, by decide +kernel⟩
def u_law_many_moments : FS := (sSeq (sIf (bCmp oEq (eOp oMod (eCall (callD 2 [] f_law_cell) (aCons (eV 0) (aCons (eC (.int 0)) aNil))) (eC (.int 2))) (eC (.int 0))) (sRet (eCall oMax (aCons (eC (.int 0)) (aCons (eCall oMin (aCons (eOp oSub (eCall oLen (aCons (eV 0) aNil)) (eC (.int 3))) (aCons (eC (.int 59)) aNil))) aNil)))) sNil) (sRet (eOp oPlus (eC (.int 4)) (eOp oMod (eCall (callD 2 [] f_law_mixed) (aCons (eCall (callD 2 [] f_law_cell) (aCons (eV 0) (aCons (eC (.int 0)) aNil))) (aCons (eC (.int 3)) aNil))) (eC (.int 15))))))
def f_law_many_moments : List D → Option D := runFn 1 u_law_many_moments
set_option maxHeartbeats 4000000 in
theorem bd_law_many_moments {fa : Addr} {cdv : Value} {A : Around} {outer : List Env} {s : Shared} {H : Hp} {E : XK} {a__law_cell : Addr} {fd__law_cell : FuncData} (c__law_cell : Cal P w K mg base "_law_cell" 1 ["_law_script", "_law_k"] 2 f_law_cell a__law_cell fd__law_cell) (b__law_cell : Binds K fd__law_cell ["_law_script", "_law_k"] []) {a__law_mixed : Addr} {fd__law_mixed : FuncData} (c__law_mixed : Cal P w K mg base "_law_mixed" 1 ["_law_cell_here", "_law_k"] 2 f_law_mixed a__law_mixed fd__law_mixed) (b__law_mixed : Binds K fd__law_mixed ["_law_cell_here", "_law_k"] []) (n_max : mg "max" = none) (n_min : mg "min" = none) (n_len : mg "len" = none) (hr : Room 1 (A.deeper (envOfC "_law_many_moments" (defScope s_law_many_moments) s.heap.objs.size fa cdv))) :
    PSs (cxOf CX0 P w K mg base N_law_many_moments "_law_many_moments" (defScope s_law_many_moments) fa cdv A outer s H E).nox (defBody s_law_many_moments) (tDS K u_law_many_moments) := by
  unfold u_law_many_moments
  refine (sd_cons ?_ ?_); (focus (refine (sd_if ?_ (sd_one ?_) sd_nil); (focus (refine (td_cmp (od_eq hr.units) ?_ pd_int); (focus (refine (pd_op od_mod ?_ pd_int); (focus (refine (pd_cal c__law_cell b__law_cell hr (by decide) rfl ?_); (focus ((refine ad_cons (hs := ?hs) ?a ?_); (case hs => exact star_ns rfl); (case a => (exact (pd_var (pv 0)))); (refine ad_cons (hs := ?hs) ?a ?_); (case hs => exact star_ns rfl); (case a => (exact pd_int)); exact ad_nil)))))))); (focus (refine (sd_ret ?_); (focus (refine (pd_callB (cd_max rfl) rfl n_max DL.boot_max ?_); (focus ((refine ad_cons (hs := ?hs) ?a ?_); (case hs => exact star_ns rfl); (case a => (exact pd_int)); (refine ad_cons (hs := ?hs) ?a ?_); (case hs => exact star_ns rfl); (case a => (refine (pd_callB (cd_min rfl) rfl n_min DL.boot_min ?_); (focus ((refine ad_cons (hs := ?hs) ?a ?_); (case hs => exact star_ns rfl); (case a => (refine (pd_op od_sub ?_ pd_int); (focus (refine (pd_callB (cd_len) rfl n_len DL.boot_len' ?_); (focus ((refine ad_cons (hs := ?hs) ?a ?_); (case hs => exact star_ns rfl); (case a => (exact (pd_var (pv 0)))); exact ad_nil)))))); (refine ad_cons (hs := ?hs) ?a ?_); (case hs => exact star_ns rfl); (case a => (exact pd_int)); exact ad_nil)))); exact ad_nil)))))))); (focus (refine (sd_one ?_); (focus (refine (sd_ret ?_); (focus (refine (pd_op od_plus pd_int ?_); (focus (refine (pd_op od_mod ?_ pd_int); (focus (refine (pd_cal c__law_mixed b__law_mixed hr (by decide) rfl ?_); (focus ((refine ad_cons (hs := ?hs) ?a ?_); (case hs => exact star_ns rfl); (case a => (refine (pd_cal c__law_cell b__law_cell hr (by decide) rfl ?_); (focus ((refine ad_cons (hs := ?hs) ?a ?_); (case hs => exact star_ns rfl); (case a => (exact (pd_var (pv 0)))); (refine ad_cons (hs := ?hs) ?a ?_); (case hs => exact star_ns rfl); (case a => (exact pd_int)); exact ad_nil)))); (refine ad_cons (hs := ?hs) ?a ?_); (case hs => exact star_ns rfl); (case a => (exact pd_int)); exact ad_nil))))))))))))
theorem ok_law_many_moments {fa : Addr} {dV : Value} {fd : FuncData} (F : Fun2 K "_law_many_moments" "_law_many_moments" s_law_many_moments dV fa fd) {a__law_cell : Addr} {fd__law_cell : FuncData} (c__law_cell : Cal P w K mg base "_law_cell" 1 ["_law_script", "_law_k"] 2 f_law_cell a__law_cell fd__law_cell) (b__law_cell : Binds K fd__law_cell ["_law_script", "_law_k"] []) {a__law_mixed : Addr} {fd__law_mixed : FuncData} (c__law_mixed : Cal P w K mg base "_law_mixed" 1 ["_law_cell_here", "_law_k"] 2 f_law_mixed a__law_mixed fd__law_mixed) (b__law_mixed : Binds K fd__law_mixed ["_law_cell_here", "_law_k"] []) (n_max : mg "max" = none) (n_min : mg "min" = none) (n_len : mg "len" = none) : FnOk P w K mg base CX0 2 fa fd ["_law_script"] (spD K 1 f_law_many_moments) :=
  F.okn (k := 1) (n := 1) (ar := 1) (k1 := 2) (u := u_law_many_moments) sc_law_many_moments rfl rfl rfl fun cdv A outer s H E hr => (by first | (with_reducible exact bd_law_many_moments c__law_cell b__law_cell c__law_mixed b__law_mixed n_max n_min n_len hr) | exact bd_law_many_moments c__law_cell b__law_cell c__law_mixed b__law_mixed n_max n_min n_len hr)
abbrev s_law_number : Stmt := top 11
def N_law_number : List Str := ["_law_script", "_law_k", "_law_cell_here"]
theorem nd_law_number : (N_law_number).Nodup := by decide +kernel
theorem sc_law_number : FnScope N_law_number ["_law_script", "_law_k"] (defScope s_law_number) := ⟨rfl, rfl, rfl, nd_law_number, rfl, by decide +kernel, by decide +kernel⟩
def u_law_number : FS := (sSeq (sIf (bCmp oEq (eOp oMod (eCall (callD 2 [] f_law_cell) (aCons (eV 0) (aCons (eC (.int 0)) aNil))) (eC (.int 2))) (eC (.int 0))) (sRet (eOp oMod (eCall (callD 2 [] f_law_cell) (aCons (eV 0) (aCons (eV 1) aNil))) (eOp oPow (eC (.int 10)) (eC (.int 60))))) sNil) (sSeq (sSet 2 (eCall (callD 2 [] f_law_cell) (aCons (eV 0) (aCons (eOp oMod (eV 1) (eCall oMax (aCons (eC (.int 1)) (aCons (eCall oLen (aCons (eV 0) aNil)) aNil)))) aNil)))) (sRet (eOp oPlus (eOp oTimes (eOp oPlus (eOp oTimes (eCall (callD 2 [] f_law_mixed) (aCons (eV 2) (aCons (eOp oPlus (eV 1) (eC (.int 5))) aNil))) (eC (.int 2147483647))) (eCall (callD 2 [] f_law_mixed) (aCons (eV 2) (aCons (eOp oPlus (eV 1) (eC (.int 90))) aNil)))) (eC (.int 2147483647))) (eCall (callD 2 [] f_law_mixed) (aCons (eV 1) (aCons (eC (.int 9)) aNil)))))))
def f_law_number : List D → Option D := runFn 3 u_law_number
set_option maxHeartbeats 4000000 in
theorem bd_law_number {fa : Addr} {cdv : Value} {A : Around} {outer : List Env} {s : Shared} {H : Hp} {E : XK} {a__law_cell : Addr} {fd__law_cell : FuncData} (c__law_cell : Cal P w K mg base "_law_cell" 1 ["_law_script", "_law_k"] 2 f_law_cell a__law_cell fd__law_cell) (b__law_cell : Binds K fd__law_cell ["_law_script", "_law_k"] []) {a__law_mixed : Addr} {fd__law_mixed : FuncData} (c__law_mixed : Cal P w K mg base "_law_mixed" 1 ["_law_cell_here", "_law_k"] 2 f_law_mixed a__law_mixed fd__law_mixed) (b__law_mixed : Binds K fd__law_mixed ["_law_cell_here", "_law_k"] []) (n_max : mg "max" = none) (n_len : mg "len" = none) (hr : Room 1 (A.deeper (envOfC "_law_number" (defScope s_law_number) s.heap.objs.size fa cdv))) :
    PSs (cxOf CX0 P w K mg base N_law_number "_law_number" (defScope s_law_number) fa cdv A outer s H E).nox (defBody s_law_number) (tDS K u_law_number) := by
  unfold u_law_number
  refine (sd_cons ?_ ?_); (focus (refine (sd_if ?_ (sd_one ?_) sd_nil); (focus (refine (td_cmp (od_eq hr.units) ?_ pd_int); (focus (refine (pd_op od_mod ?_ pd_int); (focus (refine (pd_cal c__law_cell b__law_cell hr (by decide) rfl ?_); (focus ((refine ad_cons (hs := ?hs) ?a ?_); (case hs => exact star_ns rfl); (case a => (exact (pd_var (pv 0)))); (refine ad_cons (hs := ?hs) ?a ?_); (case hs => exact star_ns rfl); (case a => (exact pd_int)); exact ad_nil)))))))); (focus (refine (sd_ret ?_); (focus (refine (pd_op od_mod ?_ ?_); (focus (refine (pd_cal c__law_cell b__law_cell hr (by decide) rfl ?_); (focus ((refine ad_cons (hs := ?hs) ?a ?_); (case hs => exact star_ns rfl); (case a => (exact (pd_var (pv 0)))); (refine ad_cons (hs := ?hs) ?a ?_); (case hs => exact star_ns rfl); (case a => (exact (pd_var (pv 1)))); exact ad_nil)))); (focus (exact (pd_op od_pow pd_int pd_int))))))))); (focus (refine (sd_cons ?_ ?_); (focus (refine (sd_set (i := 2) ?_ ?_ ?_ ?_ ?_ ?_); (focus (exact nd_law_number)); (focus (exact rfl)); (focus (exact (Or.inl rfl))); (focus (refine (pd_cal c__law_cell b__law_cell hr (by decide) rfl ?_); (focus ((refine ad_cons (hs := ?hs) ?a ?_); (case hs => exact star_ns rfl); (case a => (exact (pd_var (pv 0)))); (refine ad_cons (hs := ?hs) ?a ?_); (case hs => exact star_ns rfl); (case a => (refine (pd_op od_mod ?_ ?_); (focus (exact (pd_var (pv 1)))); (focus (refine (pd_callB (cd_max rfl) rfl n_max DL.boot_max ?_); (focus ((refine ad_cons (hs := ?hs) ?a ?_); (case hs => exact star_ns rfl); (case a => (exact pd_int)); (refine ad_cons (hs := ?hs) ?a ?_); (case hs => exact star_ns rfl); (case a => (refine (pd_callB (cd_len) rfl n_len DL.boot_len' ?_); (focus ((refine ad_cons (hs := ?hs) ?a ?_); (case hs => exact star_ns rfl); (case a => (exact (pd_var (pv 0)))); exact ad_nil)))); exact ad_nil)))))); exact ad_nil)))); (focus (exact rfl)); (focus (exact (by first | exact .inl rfl | exact .inr rfl | assumption))))); (focus (refine (sd_one ?_); (focus (refine (sd_ret ?_); (focus (refine (pd_op od_plus ?_ ?_); (focus (refine (pd_op od_times ?_ pd_int); (focus (refine (pd_op od_plus ?_ ?_); (focus (refine (pd_op od_times ?_ pd_int); (focus (refine (pd_cal c__law_mixed b__law_mixed hr (by decide) rfl ?_); (focus ((refine ad_cons (hs := ?hs) ?a ?_); (case hs => exact star_ns rfl); (case a => (exact (pd_var (pv 2)))); (refine ad_cons (hs := ?hs) ?a ?_); (case hs => exact star_ns rfl); (case a => (refine (pd_op od_plus ?_ pd_int); (focus (exact (pd_var (pv 1)))))); exact ad_nil)))))); (focus (refine (pd_cal c__law_mixed b__law_mixed hr (by decide) rfl ?_); (focus ((refine ad_cons (hs := ?hs) ?a ?_); (case hs => exact star_ns rfl); (case a => (exact (pd_var (pv 2)))); (refine ad_cons (hs := ?hs) ?a ?_); (case hs => exact star_ns rfl); (case a => (refine (pd_op od_plus ?_ pd_int); (focus (exact (pd_var (pv 1)))))); exact ad_nil)))))))); (focus (refine (pd_cal c__law_mixed b__law_mixed hr (by decide) rfl ?_); (focus ((refine ad_cons (hs := ?hs) ?a ?_); (case hs => exact star_ns rfl); (case a => (exact (pd_var (pv 1)))); (refine ad_cons (hs := ?hs) ?a ?_); (case hs => exact star_ns rfl); (case a => (exact pd_int)); exact ad_nil))))))))))))
theorem ok_law_number {fa : Addr} {dV : Value} {fd : FuncData} (F : Fun2 K "_law_number" "_law_number" s_law_number dV fa fd) {a__law_cell : Addr} {fd__law_cell : FuncData} (c__law_cell : Cal P w K mg base "_law_cell" 1 ["_law_script", "_law_k"] 2 f_law_cell a__law_cell fd__law_cell) (b__law_cell : Binds K fd__law_cell ["_law_script", "_law_k"] []) {a__law_mixed : Addr} {fd__law_mixed : FuncData} (c__law_mixed : Cal P w K mg base "_law_mixed" 1 ["_law_cell_here", "_law_k"] 2 f_law_mixed a__law_mixed fd__law_mixed) (b__law_mixed : Binds K fd__law_mixed ["_law_cell_here", "_law_k"] []) (n_max : mg "max" = none) (n_len : mg "len" = none) : FnOk P w K mg base CX0 2 fa fd ["_law_script", "_law_k"] (spD K 2 f_law_number) :=
  F.okn (k := 1) (n := 3) (ar := 2) (k1 := 2) (u := u_law_number) sc_law_number rfl rfl rfl fun cdv A outer s H E hr => (by first | (with_reducible exact bd_law_number c__law_cell b__law_cell c__law_mixed b__law_mixed n_max n_len hr) | exact bd_law_number c__law_cell b__law_cell c__law_mixed b__law_mixed n_max n_len hr)
abbrev s_law_set : Stmt := top 12
def N_law_set : List Str := ["_law_mark", "_law_wares", "_law_found", "_law_ware"]
theorem nd_law_set : (N_law_set).Nodup := by decide +kernel
theorem sc_law_set : FnScope N_law_set ["_law_mark", "_law_wares"] (defScope s_law_set) := ⟨rfl, rfl, rfl, nd_law_set, rfl, by decide +kernel, by decide +kernel⟩
def lb_law_set_1 : FS := (sSeq (sIf (bCmp oEq (eOp oMod (eV 0) (eC (.int 2))) (eC (.int 1))) (sApp 2 (eV 3)) sNil) (sSet 0 (eOp oDiv (eV 0) (eC (.int 2)))))
def u_law_set : FS := (sSeq (sOwn 2 (lLst aNil)) (sSeq (sFor (iR1 (aCons (eV 1) aNil)) (bN 3) lb_law_set_1) (sFrz 2 (sRet (eCall oTuple (aCons (eV 2) aNil))))))
def f_law_set : List D → Option D := runFn 4 u_law_set
set_option maxHeartbeats 4000000 in
theorem bd_law_set {fa : Addr} {cdv : Value} {A : Around} {outer : List Env} {s : Shared} {H : Hp} {E : XK} (n_range : mg "range" = none) (n_tuple : mg "tuple" = none) (hr : Room 0 (A.deeper (envOfC "_law_set" (defScope s_law_set) s.heap.objs.size fa cdv))) :
    PSs (cxOf CX0 P w K mg base N_law_set "_law_set" (defScope s_law_set) fa cdv A outer s H E).nox (defBody s_law_set) (tDS K u_law_set) := by
  unfold u_law_set lb_law_set_1
  refine (sd_cons ?_ ?_); (focus (exact (sd_own (i := 2) nd_law_set rfl (Or.inl rfl) (ld_lst ad_nil)))); (focus (refine (sd_cons ?_ ?_); (focus (refine (sd_for PassesOwn.never rfl ?_ (gd_name nd_law_set rfl (Or.inl rfl) (.inl rfl)) (sd_cons ?_ ?_)); (focus (refine (id_range1 rfl n_range ?_); (focus ((refine ad_cons (hs := ?hs) ?a ?_); (case hs => exact star_ns rfl); (case a => (exact (pd_var (pv 1)))); exact ad_nil)))); (focus (refine (sd_if ?_ (sd_one ?_) sd_nil); (focus (refine (td_cmp (od_eq hr.units) ?_ pd_int); (focus (refine (pd_op od_mod ?_ pd_int); (focus (exact (pd_var (pv 0)))))))); (focus (refine (sd_app (pv 2) ?_); (focus (exact (pd_var (pv 3)))))))); (focus (refine (sd_one ?_); (focus (refine (sd_set (i := 0) ?_ ?_ ?_ ?_ ?_ ?_); (focus (exact nd_law_set)); (focus (exact rfl)); (focus (exact (Or.inl rfl))); (focus (refine (pd_op od_div ?_ pd_int); (focus (exact (pd_var (pv 0)))))); (focus (exact rfl)); (focus (exact (by first | exact .inl rfl | exact .inr rfl | assumption))))))))); (focus (refine (sd_frz 2 (sd_one ?_)); (focus (refine (sd_ret ?_); (focus (refine (pd_callTy (cd_tuple) rfl n_tuple DL.boot_tuple ?_); (focus ((refine ad_cons (hs := ?hs) ?a ?_); (case hs => exact star_ns rfl); (case a => (exact (pd_var (pv 2)))); exact ad_nil))))))))))
theorem ok_law_set {fa : Addr} {dV : Value} {fd : FuncData} (F : Fun2 K "_law_set" "_law_set" s_law_set dV fa fd) (n_range : mg "range" = none) (n_tuple : mg "tuple" = none) : FnOk P w K mg base CX0 1 fa fd ["_law_mark", "_law_wares"] (spD K 2 f_law_set) :=
  F.okn (k := 0) (n := 4) (ar := 2) (k1 := 1) (u := u_law_set) sc_law_set rfl rfl rfl fun cdv A outer s H E hr => (by first | (with_reducible exact bd_law_set n_range n_tuple hr) | exact bd_law_set n_range n_tuple hr)
abbrev s_law_row : Stmt := top 14
def N_law_row : List Str := ["_law_script", "_law_step", "_law_time", "_law_row_here", "_law_k", "_law_number_here"]
theorem nd_law_row : (N_law_row).Nodup := by decide +kernel
theorem sc_law_row : FnScope N_law_row ["_law_script"] (defScope s_law_row) := ⟨rfl, rfl, rfl, nd_law_row, rfl, by decide +kernel, by decide +kernel⟩
def lb_law_row_1 : FS := (sSeq (sSet 5 (eCall (callD 2 [] f_law_number) (aCons (eV 0) (aCons (eOp oPlus (eC (.int 3)) (eV 4)) aNil)))) (sSeq (sApp 3 (eTup (aCons (eV 2) (aCons (eCall (callD 2 [] f_law_set) (aCons (eOp oMod (eV 5) (eC (.int 16))) (aCons (eC (.int 4)) aNil))) aNil)))) (sSet 2 (eOp oPlus (eOp oPlus (eV 2) (eC (.int 1))) (eOp oMod (eOp oDiv (eV 5) (eC (.int 16))) (eV 1))))))
def u_law_row : FS := (sSeq (sSet 1 (eOp oIx (eL (lLst (aCons (eC (.int 5)) (aCons (eOp oPow (eC (.int 10)) (eC (.int 9))) aNil)))) (eOp oMod (eOp oDiv (eCall (callD 2 [] f_law_cell) (aCons (eV 0) (aCons (eC (.int 0)) aNil))) (eC (.int 2))) (eC (.int 2))))) (sSeq (sSet 2 (eOp oMod (eOp oDiv (eCall (callD 2 [] f_law_cell) (aCons (eV 0) (aCons (eC (.int 0)) aNil))) (eC (.int 4))) (eC (.int 10)))) (sSeq (sOwn 3 (lLst aNil)) (sSeq (sFor (iR1 (aCons (eCall (callD 1 [] f_law_many_moments) (aCons (eV 0) aNil)) aNil)) (bN 4) lb_law_row_1) (sFrz 3 (sRet (eCall oTuple (aCons (eV 3) aNil))))))))
def f_law_row : List D → Option D := runFn 6 u_law_row
set_option maxHeartbeats 4000000 in
theorem bd_law_row {fa : Addr} {cdv : Value} {A : Around} {outer : List Env} {s : Shared} {H : Hp} {E : XK} {a__law_many_moments : Addr} {fd__law_many_moments : FuncData} (c__law_many_moments : Cal P w K mg base "_law_many_moments" 2 ["_law_script"] 1 f_law_many_moments a__law_many_moments fd__law_many_moments) (b__law_many_moments : Binds K fd__law_many_moments ["_law_script"] []) {a__law_number : Addr} {fd__law_number : FuncData} (c__law_number : Cal P w K mg base "_law_number" 2 ["_law_script", "_law_k"] 2 f_law_number a__law_number fd__law_number) (b__law_number : Binds K fd__law_number ["_law_script", "_law_k"] []) {a__law_cell : Addr} {fd__law_cell : FuncData} (c__law_cell : Cal P w K mg base "_law_cell" 1 ["_law_script", "_law_k"] 2 f_law_cell a__law_cell fd__law_cell) (b__law_cell : Binds K fd__law_cell ["_law_script", "_law_k"] []) {a__law_set : Addr} {fd__law_set : FuncData} (c__law_set : Cal P w K mg base "_law_set" 1 ["_law_mark", "_law_wares"] 2 f_law_set a__law_set fd__law_set) (b__law_set : Binds K fd__law_set ["_law_mark", "_law_wares"] []) (n_range : mg "range" = none) (n_tuple : mg "tuple" = none) (hr : Room 2 (A.deeper (envOfC "_law_row" (defScope s_law_row) s.heap.objs.size fa cdv))) :
    PSs (cxOf CX0 P w K mg base N_law_row "_law_row" (defScope s_law_row) fa cdv A outer s H E).nox (defBody s_law_row) (tDS K u_law_row) := by
  unfold u_law_row lb_law_row_1
  refine (sd_cons ?_ ?_); (focus (refine (sd_set (i := 1) ?_ ?_ ?_ ?_ ?_ ?_); (focus (exact nd_law_row)); (focus (exact rfl)); (focus (exact (Or.inl rfl))); (focus (refine (pd_ix ?_ ?_); (focus (refine (pd_l ?_); (focus (refine (ld_lst ?_); (focus ((refine ad_cons (hs := ?hs) ?a ?_); (case hs => exact star_ns rfl); (case a => (exact pd_int)); (refine ad_cons (hs := ?hs) ?a ?_); (case hs => exact star_ns rfl); (case a => (exact (pd_op od_pow pd_int pd_int))); exact ad_nil)))))); (focus (refine (pd_op od_mod ?_ pd_int); (focus (refine (pd_op od_div ?_ pd_int); (focus (refine (pd_cal c__law_cell b__law_cell hr (by decide) rfl ?_); (focus ((refine ad_cons (hs := ?hs) ?a ?_); (case hs => exact star_ns rfl); (case a => (exact (pd_var (pv 0)))); (refine ad_cons (hs := ?hs) ?a ?_); (case hs => exact star_ns rfl); (case a => (exact pd_int)); exact ad_nil)))))))))); (focus (exact rfl)); (focus (exact (by first | exact .inl rfl | exact .inr rfl | assumption))))); (focus (refine (sd_cons ?_ ?_); (focus (refine (sd_set (i := 2) ?_ ?_ ?_ ?_ ?_ ?_); (focus (exact nd_law_row)); (focus (exact rfl)); (focus (exact (Or.inl rfl))); (focus (refine (pd_op od_mod ?_ pd_int); (focus (refine (pd_op od_div ?_ pd_int); (focus (refine (pd_cal c__law_cell b__law_cell hr (by decide) rfl ?_); (focus ((refine ad_cons (hs := ?hs) ?a ?_); (case hs => exact star_ns rfl); (case a => (exact (pd_var (pv 0)))); (refine ad_cons (hs := ?hs) ?a ?_); (case hs => exact star_ns rfl); (case a => (exact pd_int)); exact ad_nil)))))))); (focus (exact rfl)); (focus (exact (by first | exact .inl rfl | exact .inr rfl | assumption))))); (focus (refine (sd_cons ?_ ?_); (focus (exact (sd_own (i := 3) nd_law_row rfl (Or.inl rfl) (ld_lst ad_nil)))); (focus (refine (sd_cons ?_ ?_); (focus (refine (sd_for PassesOwn.never rfl ?_ (gd_name nd_law_row rfl (Or.inl rfl) (.inl rfl)) (sd_cons ?_ ?_)); (focus (refine (id_range1 rfl n_range ?_); (focus ((refine ad_cons (hs := ?hs) ?a ?_); (case hs => exact star_ns rfl); (case a => (refine (pd_cal c__law_many_moments b__law_many_moments hr (by decide) rfl ?_); (focus ((refine ad_cons (hs := ?hs) ?a ?_); (case hs => exact star_ns rfl); (case a => (exact (pd_var (pv 0)))); exact ad_nil)))); exact ad_nil)))); (focus (refine (sd_set (i := 5) ?_ ?_ ?_ ?_ ?_ ?_); (focus (exact nd_law_row)); (focus (exact rfl)); (focus (exact (Or.inl rfl))); (focus (refine (pd_cal c__law_number b__law_number hr (by decide) rfl ?_); (focus ((refine ad_cons (hs := ?hs) ?a ?_); (case hs => exact star_ns rfl); (case a => (exact (pd_var (pv 0)))); (refine ad_cons (hs := ?hs) ?a ?_); (case hs => exact star_ns rfl); (case a => (refine (pd_op od_plus pd_int ?_); (focus (exact (pd_var (pv 4)))))); exact ad_nil)))); (focus (exact rfl)); (focus (exact (by first | exact .inl rfl | exact .inr rfl | assumption))))); (focus (refine (sd_cons ?_ ?_); (focus (refine (sd_app (pv 3) ?_); (focus (refine (pd_tup ?_); (focus ((refine ad_cons (hs := ?hs) ?a ?_); (case hs => exact star_ns rfl); (case a => (exact (pd_var (pv 2)))); (refine ad_cons (hs := ?hs) ?a ?_); (case hs => exact star_ns rfl); (case a => (refine (pd_cal c__law_set b__law_set hr (by decide) rfl ?_); (focus ((refine ad_cons (hs := ?hs) ?a ?_); (case hs => exact star_ns rfl); (case a => (refine (pd_op od_mod ?_ pd_int); (focus (exact (pd_var (pv 5)))))); (refine ad_cons (hs := ?hs) ?a ?_); (case hs => exact star_ns rfl); (case a => (exact pd_int)); exact ad_nil)))); exact ad_nil)))))); (focus (refine (sd_one ?_); (focus (refine (sd_set (i := 2) ?_ ?_ ?_ ?_ ?_ ?_); (focus (exact nd_law_row)); (focus (exact rfl)); (focus (exact (Or.inl rfl))); (focus (refine (pd_op od_plus ?_ ?_); (focus (refine (pd_op od_plus ?_ pd_int); (focus (exact (pd_var (pv 2)))))); (focus (refine (pd_op od_mod ?_ ?_); (focus (refine (pd_op od_div ?_ pd_int); (focus (exact (pd_var (pv 5)))))); (focus (exact (pd_var (pv 1)))))))); (focus (exact rfl)); (focus (exact (by first | exact .inl rfl | exact .inr rfl | assumption))))))))))); (focus (refine (sd_frz 3 (sd_one ?_)); (focus (refine (sd_ret ?_); (focus (refine (pd_callTy (cd_tuple) rfl n_tuple DL.boot_tuple ?_); (focus ((refine ad_cons (hs := ?hs) ?a ?_); (case hs => exact star_ns rfl); (case a => (exact (pd_var (pv 3)))); exact ad_nil))))))))))))))
theorem ok_law_row {fa : Addr} {dV : Value} {fd : FuncData} (F : Fun2 K "_law_row" "_law_row" s_law_row dV fa fd) {a__law_many_moments : Addr} {fd__law_many_moments : FuncData} (c__law_many_moments : Cal P w K mg base "_law_many_moments" 2 ["_law_script"] 1 f_law_many_moments a__law_many_moments fd__law_many_moments) (b__law_many_moments : Binds K fd__law_many_moments ["_law_script"] []) {a__law_number : Addr} {fd__law_number : FuncData} (c__law_number : Cal P w K mg base "_law_number" 2 ["_law_script", "_law_k"] 2 f_law_number a__law_number fd__law_number) (b__law_number : Binds K fd__law_number ["_law_script", "_law_k"] []) {a__law_cell : Addr} {fd__law_cell : FuncData} (c__law_cell : Cal P w K mg base "_law_cell" 1 ["_law_script", "_law_k"] 2 f_law_cell a__law_cell fd__law_cell) (b__law_cell : Binds K fd__law_cell ["_law_script", "_law_k"] []) {a__law_set : Addr} {fd__law_set : FuncData} (c__law_set : Cal P w K mg base "_law_set" 1 ["_law_mark", "_law_wares"] 2 f_law_set a__law_set fd__law_set) (b__law_set : Binds K fd__law_set ["_law_mark", "_law_wares"] []) (n_range : mg "range" = none) (n_tuple : mg "tuple" = none) : FnOk P w K mg base CX0 3 fa fd ["_law_script"] (spD K 1 f_law_row) :=
  F.okn (k := 2) (n := 6) (ar := 1) (k1 := 3) (u := u_law_row) sc_law_row rfl rfl rfl fun cdv A outer s H E hr => (by first | (with_reducible exact bd_law_row c__law_many_moments b__law_many_moments c__law_number b__law_number c__law_cell b__law_cell c__law_set b__law_set n_range n_tuple hr) | exact bd_law_row c__law_many_moments b__law_many_moments c__law_number b__law_number c__law_cell b__law_cell c__law_set b__law_set n_range n_tuple hr)
abbrev s_law_pattern : Stmt := top 15
def N_law_pattern : List Str := ["_law_number_here", "_law_sets", "_law_rest", "_law_k"]
theorem nd_law_pattern : (N_law_pattern).Nodup := by decide +kernel
theorem sc_law_pattern : FnScope N_law_pattern ["_law_number_here"] (defScope s_law_pattern) := ⟨rfl, rfl, rfl, nd_law_pattern, rfl, by decide +kernel, by decide +kernel⟩
def lb_law_pattern_1 : FS := (sSeq (sApp 1 (eCall (callD 2 [] f_law_set) (aCons (eOp oPlus (eC (.int 1)) (eOp oMod (eV 2) (eC (.int 15)))) (aCons (eC (.int 4)) aNil)))) (sSet 2 (eOp oDiv (eV 2) (eC (.int 15)))))
def u_law_pattern : FS := (sSeq (sOwn 1 (lLst aNil)) (sSeq (sSet 2 (eOp oDiv (eV 0) (eC (.int 6)))) (sSeq (sFor (iR1 (aCons (eOp oPlus (eC (.int 1)) (eOp oMod (eV 0) (eC (.int 6)))) aNil)) (bN 3) lb_law_pattern_1) (sFrz 1 (sRet (eCall oTuple (aCons (eV 1) aNil)))))))
def f_law_pattern : List D → Option D := runFn 4 u_law_pattern
set_option maxHeartbeats 4000000 in
theorem bd_law_pattern {fa : Addr} {cdv : Value} {A : Around} {outer : List Env} {s : Shared} {H : Hp} {E : XK} {a__law_set : Addr} {fd__law_set : FuncData} (c__law_set : Cal P w K mg base "_law_set" 1 ["_law_mark", "_law_wares"] 2 f_law_set a__law_set fd__law_set) (b__law_set : Binds K fd__law_set ["_law_mark", "_law_wares"] []) (n_range : mg "range" = none) (n_tuple : mg "tuple" = none) (hr : Room 1 (A.deeper (envOfC "_law_pattern" (defScope s_law_pattern) s.heap.objs.size fa cdv))) :
    PSs (cxOf CX0 P w K mg base N_law_pattern "_law_pattern" (defScope s_law_pattern) fa cdv A outer s H E).nox (defBody s_law_pattern) (tDS K u_law_pattern) := by
  unfold u_law_pattern lb_law_pattern_1
  refine (sd_cons ?_ ?_); (focus (exact (sd_own (i := 1) nd_law_pattern rfl (Or.inl rfl) (ld_lst ad_nil)))); (focus (refine (sd_cons ?_ ?_); (focus (refine (sd_set (i := 2) ?_ ?_ ?_ ?_ ?_ ?_); (focus (exact nd_law_pattern)); (focus (exact rfl)); (focus (exact (Or.inl rfl))); (focus (refine (pd_op od_div ?_ pd_int); (focus (exact (pd_var (pv 0)))))); (focus (exact rfl)); (focus (exact (by first | exact .inl rfl | exact .inr rfl | assumption))))); (focus (refine (sd_cons ?_ ?_); (focus (refine (sd_for PassesOwn.never rfl ?_ (gd_name nd_law_pattern rfl (Or.inl rfl) (.inl rfl)) (sd_cons ?_ ?_)); (focus (refine (id_range1 rfl n_range ?_); (focus ((refine ad_cons (hs := ?hs) ?a ?_); (case hs => exact star_ns rfl); (case a => (refine (pd_op od_plus pd_int ?_); (focus (refine (pd_op od_mod ?_ pd_int); (focus (exact (pd_var (pv 0)))))))); exact ad_nil)))); (focus (refine (sd_app (pv 1) ?_); (focus (refine (pd_cal c__law_set b__law_set hr (by decide) rfl ?_); (focus ((refine ad_cons (hs := ?hs) ?a ?_); (case hs => exact star_ns rfl); (case a => (refine (pd_op od_plus pd_int ?_); (focus (refine (pd_op od_mod ?_ pd_int); (focus (exact (pd_var (pv 2)))))))); (refine ad_cons (hs := ?hs) ?a ?_); (case hs => exact star_ns rfl); (case a => (exact pd_int)); exact ad_nil)))))); (focus (refine (sd_one ?_); (focus (refine (sd_set (i := 2) ?_ ?_ ?_ ?_ ?_ ?_); (focus (exact nd_law_pattern)); (focus (exact rfl)); (focus (exact (Or.inl rfl))); (focus (refine (pd_op od_div ?_ pd_int); (focus (exact (pd_var (pv 2)))))); (focus (exact rfl)); (focus (exact (by first | exact .inl rfl | exact .inr rfl | assumption))))))))); (focus (refine (sd_frz 1 (sd_one ?_)); (focus (refine (sd_ret ?_); (focus (refine (pd_callTy (cd_tuple) rfl n_tuple DL.boot_tuple ?_); (focus ((refine ad_cons (hs := ?hs) ?a ?_); (case hs => exact star_ns rfl); (case a => (exact (pd_var (pv 1)))); exact ad_nil))))))))))))
theorem ok_law_pattern {fa : Addr} {dV : Value} {fd : FuncData} (F : Fun2 K "_law_pattern" "_law_pattern" s_law_pattern dV fa fd) {a__law_set : Addr} {fd__law_set : FuncData} (c__law_set : Cal P w K mg base "_law_set" 1 ["_law_mark", "_law_wares"] 2 f_law_set a__law_set fd__law_set) (b__law_set : Binds K fd__law_set ["_law_mark", "_law_wares"] []) (n_range : mg "range" = none) (n_tuple : mg "tuple" = none) : FnOk P w K mg base CX0 2 fa fd ["_law_number_here"] (spD K 1 f_law_pattern) :=
  F.okn (k := 1) (n := 4) (ar := 1) (k1 := 2) (u := u_law_pattern) sc_law_pattern rfl rfl rfl fun cdv A outer s H E hr => (by first | (with_reducible exact bd_law_pattern c__law_set b__law_set n_range n_tuple hr) | exact bd_law_pattern c__law_set b__law_set n_range n_tuple hr)
abbrev s_law_gap : Stmt := top 16
def N_law_gap : List Str := ["_law_number_here", "_law_row_here", "_law_rest", "_law_one", "_law_other", "_law_apart"]
theorem nd_law_gap : (N_law_gap).Nodup := by decide +kernel
theorem sc_law_gap : FnScope N_law_gap ["_law_number_here", "_law_row_here"] (defScope s_law_gap) := ⟨rfl, rfl, rfl, nd_law_gap, rfl, by decide +kernel, by decide +kernel⟩
def u_law_gap : FS := (sSeq (sSet 2 (eOp oDiv (eV 0) (eC (.int 8)))) (sSeq (sIf (bCmp oLt' (eOp oMod (eV 0) (eC (.int 8))) (eC (.int 2))) (sRet (eC .non)) sNil) (sSeq (sIf (bCmp oLt' (eOp oMod (eV 0) (eC (.int 8))) (eC (.int 4))) (sRet (eOp oMod (eV 2) (eOp oIx (eL (lLst (aCons (eC (.int 10)) (aCons (eOp oPow (eC (.int 10)) (eC (.int 10))) aNil)))) (eOp oMod (eV 0) (eC (.int 2)))))) sNil) (sSeq (sIf (bCmp oLt' (eCall oLen (aCons (eV 1) aNil)) (eC (.int 2))) (sRet (eOp oMod (eV 2) (eC (.int 3)))) sNil) (sSeq (sSet 3 (eOp oMod (eV 2) (eCall oLen (aCons (eV 1) aNil)))) (sSeq (sSet 4 (eOp oMod (eOp oDiv (eV 2) (eC (.int 64))) (eCall oLen (aCons (eV 1) aNil)))) (sSeq (sSet 5 (eCall oAbs (aCons (eOp oSub (eOp oIx (eOp oIx (eV 1) (eV 3)) (eC (.int 0))) (eOp oIx (eOp oIx (eV 1) (eV 4)) (eC (.int 0)))) aNil))) (sRet (eCall oMax (aCons (eC (.int 0)) (aCons (eOp oSub (eV 5) (eCall oInt (aCons (eOp oEq (eOp oMod (eV 0) (eC (.int 8))) (eC (.int 7))) aNil))) aNil)))))))))))
def f_law_gap : List D → Option D := runFn 6 u_law_gap
set_option maxHeartbeats 4000000 in
theorem bd_law_gap {fa : Addr} {cdv : Value} {A : Around} {outer : List Env} {s : Shared} {H : Hp} {E : XK} (n_abs : mg "abs" = none) (n_max : mg "max" = none) (n_len : mg "len" = none) (n_int : mg "int" = none) (hr : Room 0 (A.deeper (envOfC "_law_gap" (defScope s_law_gap) s.heap.objs.size fa cdv))) :
    PSs (cxOf CX0 P w K mg base N_law_gap "_law_gap" (defScope s_law_gap) fa cdv A outer s H E).nox (defBody s_law_gap) (tDS K u_law_gap) := by
  unfold u_law_gap
  refine (sd_cons ?_ ?_); (focus (refine (sd_set (i := 2) ?_ ?_ ?_ ?_ ?_ ?_); (focus (exact nd_law_gap)); (focus (exact rfl)); (focus (exact (Or.inl rfl))); (focus (refine (pd_op od_div ?_ pd_int); (focus (exact (pd_var (pv 0)))))); (focus (exact rfl)); (focus (exact (by first | exact .inl rfl | exact .inr rfl | assumption))))); (focus (refine (sd_cons ?_ ?_); (focus (refine (sd_if ?_ (sd_one ?_) sd_nil); (focus (refine (td_cmp od_lt' ?_ pd_int); (focus (refine (pd_op od_mod ?_ pd_int); (focus (exact (pd_var (pv 0)))))))); (focus (exact (sd_ret pd_non))))); (focus (refine (sd_cons ?_ ?_); (focus (refine (sd_if ?_ (sd_one ?_) sd_nil); (focus (refine (td_cmp od_lt' ?_ pd_int); (focus (refine (pd_op od_mod ?_ pd_int); (focus (exact (pd_var (pv 0)))))))); (focus (refine (sd_ret ?_); (focus (refine (pd_op od_mod ?_ ?_); (focus (exact (pd_var (pv 2)))); (focus (refine (pd_ix ?_ ?_); (focus (refine (pd_l ?_); (focus (refine (ld_lst ?_); (focus ((refine ad_cons (hs := ?hs) ?a ?_); (case hs => exact star_ns rfl); (case a => (exact pd_int)); (refine ad_cons (hs := ?hs) ?a ?_); (case hs => exact star_ns rfl); (case a => (exact (pd_op od_pow pd_int pd_int))); exact ad_nil)))))); (focus (refine (pd_op od_mod ?_ pd_int); (focus (exact (pd_var (pv 0)))))))))))))); (focus (refine (sd_cons ?_ ?_); (focus (refine (sd_if ?_ (sd_one ?_) sd_nil); (focus (refine (td_cmp od_lt' ?_ pd_int); (focus (refine (pd_callB (cd_len) rfl n_len DL.boot_len' ?_); (focus ((refine ad_cons (hs := ?hs) ?a ?_); (case hs => exact star_ns rfl); (case a => (exact (pd_var (pv 1)))); exact ad_nil)))))); (focus (refine (sd_ret ?_); (focus (refine (pd_op od_mod ?_ pd_int); (focus (exact (pd_var (pv 2)))))))))); (focus (refine (sd_cons ?_ ?_); (focus (refine (sd_set (i := 3) ?_ ?_ ?_ ?_ ?_ ?_); (focus (exact nd_law_gap)); (focus (exact rfl)); (focus (exact (Or.inl rfl))); (focus (refine (pd_op od_mod ?_ ?_); (focus (exact (pd_var (pv 2)))); (focus (refine (pd_callB (cd_len) rfl n_len DL.boot_len' ?_); (focus ((refine ad_cons (hs := ?hs) ?a ?_); (case hs => exact star_ns rfl); (case a => (exact (pd_var (pv 1)))); exact ad_nil)))))); (focus (exact rfl)); (focus (exact (by first | exact .inl rfl | exact .inr rfl | assumption))))); (focus (refine (sd_cons ?_ ?_); (focus (refine (sd_set (i := 4) ?_ ?_ ?_ ?_ ?_ ?_); (focus (exact nd_law_gap)); (focus (exact rfl)); (focus (exact (Or.inl rfl))); (focus (refine (pd_op od_mod ?_ ?_); (focus (refine (pd_op od_div ?_ pd_int); (focus (exact (pd_var (pv 2)))))); (focus (refine (pd_callB (cd_len) rfl n_len DL.boot_len' ?_); (focus ((refine ad_cons (hs := ?hs) ?a ?_); (case hs => exact star_ns rfl); (case a => (exact (pd_var (pv 1)))); exact ad_nil)))))); (focus (exact rfl)); (focus (exact (by first | exact .inl rfl | exact .inr rfl | assumption))))); (focus (refine (sd_cons ?_ ?_); (focus (refine (sd_set (i := 5) ?_ ?_ ?_ ?_ ?_ ?_); (focus (exact nd_law_gap)); (focus (exact rfl)); (focus (exact (Or.inl rfl))); (focus (refine (pd_callB (cd_abs) rfl n_abs DL.boot_abs ?_); (focus ((refine ad_cons (hs := ?hs) ?a ?_); (case hs => exact star_ns rfl); (case a => (refine (pd_op od_sub ?_ ?_); (focus (refine (pd_ix ?_ pd_int); (focus (refine (pd_ix ?_ ?_); (focus (exact (pd_var (pv 1)))); (focus (exact (pd_var (pv 3)))))))); (focus (refine (pd_ix ?_ pd_int); (focus (refine (pd_ix ?_ ?_); (focus (exact (pd_var (pv 1)))); (focus (exact (pd_var (pv 4)))))))))); exact ad_nil)))); (focus (exact rfl)); (focus (exact (by first | exact .inl rfl | exact .inr rfl | assumption))))); (focus (refine (sd_one ?_); (focus (refine (sd_ret ?_); (focus (refine (pd_callB (cd_max rfl) rfl n_max DL.boot_max ?_); (focus ((refine ad_cons (hs := ?hs) ?a ?_); (case hs => exact star_ns rfl); (case a => (exact pd_int)); (refine ad_cons (hs := ?hs) ?a ?_); (case hs => exact star_ns rfl); (case a => (refine (pd_op od_sub ?_ ?_); (focus (exact (pd_var (pv 5)))); (focus (refine (pd_callTy (cd_int) rfl n_int DL.boot_int ?_); (focus ((refine ad_cons (hs := ?hs) ?a ?_); (case hs => exact star_ns rfl); (case a => (refine (pd_cmp (od_eq hr.units) ?_ pd_int); (focus (refine (pd_op od_mod ?_ pd_int); (focus (exact (pd_var (pv 0)))))))); exact ad_nil)))))); exact ad_nil))))))))))))))))))))
theorem ok_law_gap {fa : Addr} {dV : Value} {fd : FuncData} (F : Fun2 K "_law_gap" "_law_gap" s_law_gap dV fa fd) (n_abs : mg "abs" = none) (n_max : mg "max" = none) (n_len : mg "len" = none) (n_int : mg "int" = none) : FnOk P w K mg base CX0 1 fa fd ["_law_number_here", "_law_row_here"] (spD K 2 f_law_gap) :=
  F.okn (k := 0) (n := 6) (ar := 2) (k1 := 1) (u := u_law_gap) sc_law_gap rfl rfl rfl fun cdv A outer s H E hr => (by first | (with_reducible exact bd_law_gap n_abs n_max n_len n_int hr) | exact bd_law_gap n_abs n_max n_len n_int hr)
abbrev s_every_place : Stmt := top 7
def N_every_place : List Str := ["row"]
theorem nd_every_place : (N_every_place).Nodup := by decide +kernel
theorem sc_every_place : FnScope N_every_place ["row"] (defScope s_every_place) := ⟨rfl, rfl, rfl, nd_every_place, rfl, by decide +kernel, by decide +kernel⟩
def u_every_place : FS := (sRet (eOp oSub (eOp oShl (eC (.int 1)) (eCall oLen (aCons (eV 0) aNil))) (eC (.int 1))))
def f_every_place : List D → Option D := runFn 1 u_every_place
set_option maxHeartbeats 4000000 in
theorem bd_every_place {fa : Addr} {cdv : Value} {A : Around} {outer : List Env} {s : Shared} {H : Hp} {E : XK} (n_len : mg "len" = none) (hr : Room 0 (A.deeper (envOfC "every_place" (defScope s_every_place) s.heap.objs.size fa cdv))) :
    PSs (cxOf CX0 P w K mg base N_every_place "every_place" (defScope s_every_place) fa cdv A outer s H E).nox (defBody s_every_place) (tDS K u_every_place) := by
  unfold u_every_place
  refine (sd_one ?_); (focus (refine (sd_ret ?_); (focus (refine (pd_op od_sub ?_ pd_int); (focus (refine (pd_op od_shl pd_int ?_); (focus (refine (pd_callB (cd_len) rfl n_len DL.boot_len' ?_); (focus ((refine ad_cons (hs := ?hs) ?a ?_); (case hs => exact star_ns rfl); (case a => (exact (pd_var (pv 0)))); exact ad_nil))))))))))
theorem ok_every_place {fa : Addr} {dV : Value} {fd : FuncData} (F : Fun2 K "every_place" "every_place" s_every_place dV fa fd) (n_len : mg "len" = none) : FnOk P w K mg base CX0 1 fa fd ["row"] (spD K 1 f_every_place) :=
  F.okn (k := 0) (n := 1) (ar := 1) (k1 := 1) (u := u_every_place) sc_every_place rfl rfl rfl fun cdv A outer s H E hr => (by first | (with_reducible exact bd_every_place n_len hr) | exact bd_every_place n_len hr)
abbrev s_open_places : Stmt := top 5
def N_open_places : List Str := ["row", "ended", "gap", "found", "nearest", "place", "moment"]
theorem nd_open_places : (N_open_places).Nodup := by decide +kernel
theorem sc_open_places : FnScope N_open_places ["row", "ended", "gap"] (defScope s_open_places) := ⟨rfl, rfl, rfl, nd_open_places, rfl, by decide +kernel, by decide +kernel⟩
def lb_open_places_1 : FS := (sSeq (sIf (bAnd (bCmp (oIs true) (eV 4) (eC .non)) (bOr (bCmp (oIs false) (eV 2) (eC .non)) (bCmp oLe (eOp oSub (eOp oIx (eV 6) (eC (.int 0))) (eV 4)) (eV 2)))) (sSet 3 (eOp oAdd (eV 3) (eOp oShl (eC (.int 1)) (eV 5)))) sNil) (sIf (bCmp oEq (eOp oMod (eOp oShr (eV 1) (eV 5)) (eC (.int 2))) (eC (.int 1))) (sSet 4 (eOp oIx (eV 6) (eC (.int 0)))) sNil))
def u_open_places : FS := (sSeq (sIf (bCmp (oIs false) (eV 1) (eC .non)) (sRet (eCall (callD 1 [] f_every_place) (aCons (eV 0) aNil))) sNil) (sSeq (sSet 3 (eC (.int 0))) (sSeq (sSet 4 (eC .non)) (sSeq (sFor (iEnum (eV 0)) (bTup 2 (bCons (bN 5) (bCons (bN 6) bNil))) lb_open_places_1) (sRet (eV 3))))))
def f_open_places : List D → Option D := runFn 7 u_open_places
set_option maxHeartbeats 4000000 in
theorem bd_open_places {fa : Addr} {cdv : Value} {A : Around} {outer : List Env} {s : Shared} {H : Hp} {E : XK} {a_every_place : Addr} {fd_every_place : FuncData} (c_every_place : Cal P w K mg base "every_place" 1 ["row"] 1 f_every_place a_every_place fd_every_place) (b_every_place : Binds K fd_every_place ["row"] []) (n_enumerate : mg "enumerate" = none) (hr : Room 1 (A.deeper (envOfC "open_places" (defScope s_open_places) s.heap.objs.size fa cdv))) :
    PSs (cxOf CX0 P w K mg base N_open_places "open_places" (defScope s_open_places) fa cdv A outer s H E).nox (defBody s_open_places) (tDS K u_open_places) := by
  unfold u_open_places lb_open_places_1
  refine (sd_cons ?_ ?_); (focus (refine (sd_if ?_ (sd_one ?_) sd_nil); (focus (refine (td_cmp (od_is rfl) ?_ pd_non); (focus (exact (pd_var (pv 1)))))); (focus (refine (sd_ret ?_); (focus (refine (pd_cal c_every_place b_every_place hr (by decide) rfl ?_); (focus ((refine ad_cons (hs := ?hs) ?a ?_); (case hs => exact star_ns rfl); (case a => (exact (pd_var (pv 0)))); exact ad_nil)))))))); (focus (refine (sd_cons ?_ ?_); (focus (refine (sd_set (i := 3) ?_ ?_ ?_ pd_int ?_ ?_); (focus (exact nd_open_places)); (focus (exact rfl)); (focus (exact (Or.inl rfl))); (focus (exact rfl)); (focus (exact (by first | exact .inl rfl | exact .inr rfl | assumption))))); (focus (refine (sd_cons ?_ ?_); (focus (refine (sd_set (i := 4) ?_ ?_ ?_ pd_non ?_ ?_); (focus (exact nd_open_places)); (focus (exact rfl)); (focus (exact (Or.inl rfl))); (focus (exact rfl)); (focus (exact (by first | exact .inl rfl | exact .inr rfl | assumption))))); (focus (refine (sd_cons ?_ ?_); (focus (refine (sd_for PassesOwn.never rfl ?_ (gd_tup rfl (gd_cons (gd_name nd_open_places rfl (Or.inl rfl) (.inl rfl)) (gd_cons (gd_name nd_open_places rfl (Or.inl rfl) (.inl rfl)) gd_nil))) (sd_cons ?_ ?_)); (focus (refine (id_enum rfl n_enumerate ?_); (focus (exact (pd_var (pv 0)))))); (focus (refine (sd_if ?_ (sd_one ?_) sd_nil); (focus (refine (PW.pt (tw_and ?_ (tw_and1 ?_))); (focus (refine (td_cmp (od_isnot rfl) ?_ pd_non); (focus (exact (pd_var (pv 4)))))); (focus (refine (PW.pt (tw_or ?_ (tw_or1 ?_))); (focus (refine (td_cmp (od_is rfl) ?_ pd_non); (focus (exact (pd_var (pv 2)))))); (focus (refine (td_cmp od_le ?_ ?_); (focus (refine (pd_op od_sub ?_ ?_); (focus (refine (pd_ix ?_ pd_int); (focus (exact (pd_var (pv 6)))))); (focus (exact (pd_var (pv 4)))))); (focus (exact (pd_var (pv 2)))))))))); (focus (refine (sd_augA (i := 3) nd_open_places rfl (Or.inl rfl) ?_); (focus (refine (pd_op od_shl pd_int ?_); (focus (exact (pd_var (pv 5)))))))))); (focus (refine (sd_one ?_); (focus (refine (sd_if ?_ (sd_one ?_) sd_nil); (focus (refine (td_cmp (od_eq hr.units) ?_ pd_int); (focus (refine (pd_op od_mod ?_ pd_int); (focus (refine (pd_op od_shr ?_ ?_); (focus (exact (pd_var (pv 1)))); (focus (exact (pd_var (pv 5)))))))))); (focus (refine (sd_set (i := 4) ?_ ?_ ?_ ?_ ?_ ?_); (focus (exact nd_open_places)); (focus (exact rfl)); (focus (exact (Or.inl rfl))); (focus (refine (pd_ix ?_ pd_int); (focus (exact (pd_var (pv 6)))))); (focus (exact rfl)); (focus (exact (by first | exact .inl rfl | exact .inr rfl | assumption))))))))))); (focus (refine (sd_one ?_); (focus (refine (sd_ret ?_); (focus (exact (pd_var (pv 3))))))))))))))
theorem ok_open_places {fa : Addr} {dV : Value} {fd : FuncData} (F : Fun2 K "open_places" "open_places" s_open_places dV fa fd) {a_every_place : Addr} {fd_every_place : FuncData} (c_every_place : Cal P w K mg base "every_place" 1 ["row"] 1 f_every_place a_every_place fd_every_place) (b_every_place : Binds K fd_every_place ["row"] []) (n_enumerate : mg "enumerate" = none) : FnOk P w K mg base CX0 2 fa fd ["row", "ended", "gap"] (spD K 3 f_open_places) :=
  F.okn (k := 1) (n := 7) (ar := 3) (k1 := 2) (u := u_open_places) sc_open_places rfl rfl rfl fun cdv A outer s H E hr => (by first | (with_reducible exact bd_open_places c_every_place b_every_place n_enumerate hr) | exact bd_open_places c_every_place b_every_place n_enumerate hr)
abbrev s_column : Stmt := top 1
def N_column : List Str := ["runs", "ware"]
theorem nd_column : (N_column).Nodup := by decide +kernel
theorem sc_column : FnScope N_column ["runs", "ware"] (defScope s_column) := ⟨rfl, rfl, rfl, nd_column, rfl, by decide +kernel, by decide +kernel⟩
theorem nd_column_1 : (["place", "run", "ware"] : List Str).Nodup := by decide +kernel
def u_column : FS := (sRet (eCall oSum (aCons (eL (lComp (iEnum (eV 0)) [none, none, some 1] (bTup 2 (bCons (bN 0) (bCons (bN 1) bNil))) (bCmp (oIn false) (eV 2) (eOp oIx (eV 1) (eC (.int 1)))) (eOp oShl (eC (.int 1)) (eV 0)))) aNil)))
def f_column : List D → Option D := runFn 2 u_column
set_option maxHeartbeats 4000000 in
theorem bd_column {fa : Addr} {cdv : Value} {A : Around} {outer : List Env} {s : Shared} {H : Hp} {E : XK} (n_sum : mg "sum" = none) (n_enumerate : mg "enumerate" = none) (hr : Room 0 (A.deeper (envOfC "column" (defScope s_column) s.heap.objs.size fa cdv))) :
    PSs (cxOf CX0 P w K mg base N_column "column" (defScope s_column) fa cdv A outer s H E).nox (defBody s_column) (tDS K u_column) := by
  unfold u_column
  refine (sd_one ?_); (focus (refine (sd_ret ?_); (focus (refine (pd_callB (cd_sum rfl) rfl n_sum DL.boot_sum ?_); (focus ((refine ad_cons (hs := ?hs) ?a ?_); (case hs => exact star_ns rfl); (case a => (refine (pd_l ?_); (focus (refine (ld_comp (N' := ["place", "run", "ware"]) (cap := [none, none, some 1]) rfl (capOk_of rfl rfl) (fresh_tup (freshS_cons rfl (freshS_cons rfl freshS_nil))) ?_ (fun _ _ _ _ _ => (gd_tup rfl (gd_cons (gd_name nd_column_1 rfl (Or.inl rfl) (.inr rfl)) (gd_cons (gd_name nd_column_1 rfl (Or.inl rfl) (.inr rfl)) gd_nil)))) (fun _ _ _ _ _ => (cd_one ?_)) (fun _ _ _ _ _ => ?_)); (focus (refine (id_enum rfl n_enumerate ?_); (focus (exact (pd_var (pv 0)))))); (focus (refine (td_cmp od_in ?_ ?_); (focus (exact (pd_var (pv 2)))); (focus (refine (pd_ix ?_ pd_int); (focus (exact (pd_var (pv 1)))))))); (focus (refine (pd_op od_shl pd_int ?_); (focus (exact (pd_var (pv 0)))))))))); exact ad_nil))))))
theorem ok_column {fa : Addr} {dV : Value} {fd : FuncData} (F : Fun2 K "column" "column" s_column dV fa fd) (n_sum : mg "sum" = none) (n_enumerate : mg "enumerate" = none) : FnOk P w K mg base CX0 1 fa fd ["runs", "ware"] (spD K 2 f_column) :=
  F.okn (k := 0) (n := 2) (ar := 2) (k1 := 1) (u := u_column) sc_column rfl rfl rfl fun cdv A outer s H E hr => (by first | (with_reducible exact bd_column n_sum n_enumerate hr) | exact bd_column n_sum n_enumerate hr)
abbrev s_places_above : Stmt := top 6
def N_places_above : List Str := ["row", "some", "mark", "ware"]
theorem nd_places_above : (N_places_above).Nodup := by decide +kernel
theorem sc_places_above : FnScope N_places_above ["row", "some"] (defScope s_places_above) := ⟨rfl, rfl, rfl, nd_places_above, rfl, by decide +kernel, by decide +kernel⟩
def lb_places_above_1 : FS := (sSet 2 (eOp oBand (eV 2) (eCall (callD 2 [] f_column) (aCons (eV 0) (aCons (eV 3) aNil)))))
def u_places_above : FS := (sSeq (sSet 2 (eCall (callD 1 [] f_every_place) (aCons (eV 0) aNil))) (sSeq (sFor (iSeq (eV 1)) (bN 3) lb_places_above_1) (sRet (eV 2))))
def f_places_above : List D → Option D := runFn 4 u_places_above
set_option maxHeartbeats 4000000 in
theorem bd_places_above {fa : Addr} {cdv : Value} {A : Around} {outer : List Env} {s : Shared} {H : Hp} {E : XK} {a_every_place : Addr} {fd_every_place : FuncData} (c_every_place : Cal P w K mg base "every_place" 1 ["row"] 1 f_every_place a_every_place fd_every_place) (b_every_place : Binds K fd_every_place ["row"] []) {a_column : Addr} {fd_column : FuncData} (c_column : Cal P w K mg base "column" 1 ["runs", "ware"] 2 f_column a_column fd_column) (b_column : Binds K fd_column ["runs", "ware"] []) (hr : Room 1 (A.deeper (envOfC "places_above" (defScope s_places_above) s.heap.objs.size fa cdv))) :
    PSs (cxOf CX0 P w K mg base N_places_above "places_above" (defScope s_places_above) fa cdv A outer s H E).nox (defBody s_places_above) (tDS K u_places_above) := by
  unfold u_places_above lb_places_above_1
  refine (sd_cons ?_ ?_); (focus (refine (sd_set (i := 2) ?_ ?_ ?_ ?_ ?_ ?_); (focus (exact nd_places_above)); (focus (exact rfl)); (focus (exact (Or.inl rfl))); (focus (refine (pd_cal c_every_place b_every_place hr (by decide) rfl ?_); (focus ((refine ad_cons (hs := ?hs) ?a ?_); (case hs => exact star_ns rfl); (case a => (exact (pd_var (pv 0)))); exact ad_nil)))); (focus (exact rfl)); (focus (exact (by first | exact .inl rfl | exact .inr rfl | assumption))))); (focus (refine (sd_cons ?_ ?_); (focus (refine (sd_for PassesOwn.never rfl ?_ (gd_name nd_places_above rfl (Or.inl rfl) (.inl rfl)) (sd_one ?_)); (focus (refine (id_seq ?_); (focus (exact (pd_var (pv 1)))))); (focus (refine (sd_set (i := 2) ?_ ?_ ?_ ?_ ?_ ?_); (focus (exact nd_places_above)); (focus (exact rfl)); (focus (exact (Or.inl rfl))); (focus (refine (pd_op od_band ?_ ?_); (focus (exact (pd_var (pv 2)))); (focus (refine (pd_cal c_column b_column hr (by decide) rfl ?_); (focus ((refine ad_cons (hs := ?hs) ?a ?_); (case hs => exact star_ns rfl); (case a => (exact (pd_var (pv 0)))); (refine ad_cons (hs := ?hs) ?a ?_); (case hs => exact star_ns rfl); (case a => (exact (pd_var (pv 3)))); exact ad_nil)))))); (focus (exact rfl)); (focus (exact (by first | exact .inl rfl | exact .inr rfl | assumption))))))); (focus (refine (sd_one ?_); (focus (refine (sd_ret ?_); (focus (exact (pd_var (pv 2))))))))))
theorem ok_places_above {fa : Addr} {dV : Value} {fd : FuncData} (F : Fun2 K "places_above" "places_above" s_places_above dV fa fd) {a_every_place : Addr} {fd_every_place : FuncData} (c_every_place : Cal P w K mg base "every_place" 1 ["row"] 1 f_every_place a_every_place fd_every_place) (b_every_place : Binds K fd_every_place ["row"] []) {a_column : Addr} {fd_column : FuncData} (c_column : Cal P w K mg base "column" 1 ["runs", "ware"] 2 f_column a_column fd_column) (b_column : Binds K fd_column ["runs", "ware"] []) : FnOk P w K mg base CX0 2 fa fd ["row", "some"] (spD K 2 f_places_above) :=
  F.okn (k := 1) (n := 4) (ar := 2) (k1 := 2) (u := u_places_above) sc_places_above rfl rfl rfl fun cdv A outer s H E hr => (by first | (with_reducible exact bd_places_above c_every_place b_every_place c_column b_column hr) | exact bd_places_above c_every_place b_every_place c_column b_column hr)
abbrev s_end_marks : Stmt := top 4
def N_end_marks : List Str := ["row", "pattern", "gap", "marks", "mark", "some"]
theorem nd_end_marks : (N_end_marks).Nodup := by decide +kernel
theorem sc_end_marks : FnScope N_end_marks ["row", "pattern", "gap"] (defScope s_end_marks) := ⟨rfl, rfl, rfl, nd_end_marks, rfl, by decide +kernel, by decide +kernel⟩
def lb_end_marks_1 : FS := (sSeq (sSet 4 (eOp oBand (eCall (callD 3 [] f_open_places) (aCons (eV 0) (aCons (eV 4) (aCons (eV 2) aNil)))) (eCall (callD 2 [] f_places_above) (aCons (eV 0) (aCons (eV 5) aNil))))) (sApp 3 (eV 4)))
def u_end_marks : FS := (sSeq (sOwn 3 (lLst aNil)) (sSeq (sSet 4 (eC .non)) (sSeq (sFor (iSeq (eV 1)) (bN 5) lb_end_marks_1) (sFrz 3 (sRet (eV 3))))))
def f_end_marks : List D → Option D := runFn 6 u_end_marks
set_option maxHeartbeats 4000000 in
theorem bd_end_marks {fa : Addr} {cdv : Value} {A : Around} {outer : List Env} {s : Shared} {H : Hp} {E : XK} {a_open_places : Addr} {fd_open_places : FuncData} (c_open_places : Cal P w K mg base "open_places" 2 ["row", "ended", "gap"] 3 f_open_places a_open_places fd_open_places) (b_open_places : Binds K fd_open_places ["row", "ended", "gap"] []) {a_places_above : Addr} {fd_places_above : FuncData} (c_places_above : Cal P w K mg base "places_above" 2 ["row", "some"] 2 f_places_above a_places_above fd_places_above) (b_places_above : Binds K fd_places_above ["row", "some"] []) (hr : Room 2 (A.deeper (envOfC "end_marks" (defScope s_end_marks) s.heap.objs.size fa cdv))) :
    PSs (cxOf CX0 P w K mg base N_end_marks "end_marks" (defScope s_end_marks) fa cdv A outer s H E).nox (defBody s_end_marks) (tDS K u_end_marks) := by
  unfold u_end_marks lb_end_marks_1
  refine (sd_cons ?_ ?_); (focus (exact (sd_own (i := 3) nd_end_marks rfl (Or.inl rfl) (ld_lst ad_nil)))); (focus (refine (sd_cons ?_ ?_); (focus (refine (sd_set (i := 4) ?_ ?_ ?_ pd_non ?_ ?_); (focus (exact nd_end_marks)); (focus (exact rfl)); (focus (exact (Or.inl rfl))); (focus (exact rfl)); (focus (exact (by first | exact .inl rfl | exact .inr rfl | assumption))))); (focus (refine (sd_cons ?_ ?_); (focus (refine (sd_for PassesOwn.never rfl ?_ (gd_name nd_end_marks rfl (Or.inl rfl) (.inl rfl)) (sd_cons ?_ ?_)); (focus (refine (id_seq ?_); (focus (exact (pd_var (pv 1)))))); (focus (refine (sd_set (i := 4) ?_ ?_ ?_ ?_ ?_ ?_); (focus (exact nd_end_marks)); (focus (exact rfl)); (focus (exact (Or.inl rfl))); (focus (refine (pd_op od_band ?_ ?_); (focus (refine (pd_cal c_open_places b_open_places hr (by decide) rfl ?_); (focus ((refine ad_cons (hs := ?hs) ?a ?_); (case hs => exact star_ns rfl); (case a => (exact (pd_var (pv 0)))); (refine ad_cons (hs := ?hs) ?a ?_); (case hs => exact star_ns rfl); (case a => (exact (pd_var (pv 4)))); (refine ad_cons (hs := ?hs) ?a ?_); (case hs => exact star_ns rfl); (case a => (exact (pd_var (pv 2)))); exact ad_nil)))); (focus (refine (pd_cal c_places_above b_places_above hr (by decide) rfl ?_); (focus ((refine ad_cons (hs := ?hs) ?a ?_); (case hs => exact star_ns rfl); (case a => (exact (pd_var (pv 0)))); (refine ad_cons (hs := ?hs) ?a ?_); (case hs => exact star_ns rfl); (case a => (exact (pd_var (pv 5)))); exact ad_nil)))))); (focus (exact rfl)); (focus (exact (by first | exact .inl rfl | exact .inr rfl | assumption))))); (focus (refine (sd_one ?_); (focus (refine (sd_app (pv 3) ?_); (focus (exact (pd_var (pv 4)))))))))); (focus (refine (sd_frz 3 (sd_one ?_)); (focus (refine (sd_ret ?_); (focus (exact (pd_var (pv 3))))))))))))
theorem ok_end_marks {fa : Addr} {dV : Value} {fd : FuncData} (F : Fun2 K "end_marks" "end_marks" s_end_marks dV fa fd) {a_open_places : Addr} {fd_open_places : FuncData} (c_open_places : Cal P w K mg base "open_places" 2 ["row", "ended", "gap"] 3 f_open_places a_open_places fd_open_places) (b_open_places : Binds K fd_open_places ["row", "ended", "gap"] []) {a_places_above : Addr} {fd_places_above : FuncData} (c_places_above : Cal P w K mg base "places_above" 2 ["row", "some"] 2 f_places_above a_places_above fd_places_above) (b_places_above : Binds K fd_places_above ["row", "some"] []) : FnOk P w K mg base CX0 3 fa fd ["row", "pattern", "gap"] (spD K 3 f_end_marks) :=
  F.okn (k := 2) (n := 6) (ar := 3) (k1 := 3) (u := u_end_marks) sc_end_marks rfl rfl rfl fun cdv A outer s H E hr => (by first | (with_reducible exact bd_end_marks c_open_places b_open_places c_places_above b_places_above hr) | exact bd_end_marks c_open_places b_open_places c_places_above b_places_above hr)
abbrev s_places : Stmt := top 3
def N_places : List Str := ["row", "pattern", "gap", "marks", "found", "place", "mark"]
theorem nd_places : (N_places).Nodup := by decide +kernel
theorem sc_places : FnScope N_places ["row", "pattern", "gap"] (defScope s_places) := ⟨rfl, rfl, rfl, nd_places, rfl, by decide +kernel, by decide +kernel⟩
def lb_places_1 : FS := (sSeq (sSet 5 (eOp oSub (eUn oBits (eOp oBand (eV 6) (eOp oSub (eOp oShl (eC (.int 1)) (eV 5)) (eC (.int 1))))) (eC (.int 1)))) (sApp 4 (eV 5)))
def u_places : FS := (sSeq (sSet 3 (eCall (callD 3 [] f_end_marks) (aCons (eV 0) (aCons (eV 1) (aCons (eV 2) aNil))))) (sSeq (sIf (bCmp (oIn false) (eC (.int 0)) (eV 3)) (sRet (eC .non)) sNil) (sSeq (sOwn 4 (lLst aNil)) (sSeq (sSet 5 (eCall oLen (aCons (eV 0) aNil))) (sSeq (sFor (iRev (eV 3)) (bN 6) lb_places_1) (sFrz 4 (sRet (eRevT (eV 4)))))))))
def f_places : List D → Option D := runFn 7 u_places
set_option maxHeartbeats 4000000 in
theorem bd_places {fa : Addr} {cdv : Value} {A : Around} {outer : List Env} {s : Shared} {H : Hp} {E : XK} {a_end_marks : Addr} {fd_end_marks : FuncData} (c_end_marks : Cal P w K mg base "end_marks" 3 ["row", "pattern", "gap"] 3 f_end_marks a_end_marks fd_end_marks) (b_end_marks : Binds K fd_end_marks ["row", "pattern", "gap"] []) (n_len : mg "len" = none) (n_reversed : mg "reversed" = none) (n_tuple : mg "tuple" = none) (hr : Room 3 (A.deeper (envOfC "places" (defScope s_places) s.heap.objs.size fa cdv))) :
    PSs (cxOf CX0 P w K mg base N_places "places" (defScope s_places) fa cdv A outer s H E).nox (defBody s_places) (tDS K u_places) := by
  unfold u_places lb_places_1
  refine (sd_cons ?_ ?_); (focus (refine (sd_set (i := 3) ?_ ?_ ?_ ?_ ?_ ?_); (focus (exact nd_places)); (focus (exact rfl)); (focus (exact (Or.inl rfl))); (focus (refine (pd_cal c_end_marks b_end_marks hr (by decide) rfl ?_); (focus ((refine ad_cons (hs := ?hs) ?a ?_); (case hs => exact star_ns rfl); (case a => (exact (pd_var (pv 0)))); (refine ad_cons (hs := ?hs) ?a ?_); (case hs => exact star_ns rfl); (case a => (exact (pd_var (pv 1)))); (refine ad_cons (hs := ?hs) ?a ?_); (case hs => exact star_ns rfl); (case a => (exact (pd_var (pv 2)))); exact ad_nil)))); (focus (exact rfl)); (focus (exact (by first | exact .inl rfl | exact .inr rfl | assumption))))); (focus (refine (sd_cons ?_ ?_); (focus (refine (sd_if ?_ (sd_one ?_) sd_nil); (focus (refine (td_cmp od_in pd_int ?_); (focus (exact (pd_var (pv 3)))))); (focus (exact (sd_ret pd_non))))); (focus (refine (sd_cons ?_ ?_); (focus (exact (sd_own (i := 4) nd_places rfl (Or.inl rfl) (ld_lst ad_nil)))); (focus (refine (sd_cons ?_ ?_); (focus (refine (sd_set (i := 5) ?_ ?_ ?_ ?_ ?_ ?_); (focus (exact nd_places)); (focus (exact rfl)); (focus (exact (Or.inl rfl))); (focus (refine (pd_callB (cd_len) rfl n_len DL.boot_len' ?_); (focus ((refine ad_cons (hs := ?hs) ?a ?_); (case hs => exact star_ns rfl); (case a => (exact (pd_var (pv 0)))); exact ad_nil)))); (focus (exact rfl)); (focus (exact (by first | exact .inl rfl | exact .inr rfl | assumption))))); (focus (refine (sd_cons ?_ ?_); (focus (refine (sd_for PassesOwn.never rfl ?_ (gd_name nd_places rfl (Or.inl rfl) (.inl rfl)) (sd_cons ?_ ?_)); (focus (refine (id_rev rfl n_reversed ?_); (focus (exact (pd_var (pv 3)))))); (focus (refine (sd_set (i := 5) ?_ ?_ ?_ ?_ ?_ ?_); (focus (exact nd_places)); (focus (exact rfl)); (focus (exact (Or.inl rfl))); (focus (refine (pd_op od_sub ?_ pd_int); (focus (refine (pd_bits ?_); (focus (refine (pd_op od_band ?_ ?_); (focus (exact (pd_var (pv 6)))); (focus (refine (pd_op od_sub ?_ pd_int); (focus (refine (pd_op od_shl pd_int ?_); (focus (exact (pd_var (pv 5)))))))))))))); (focus (exact rfl)); (focus (exact (by first | exact .inl rfl | exact .inr rfl | assumption))))); (focus (refine (sd_one ?_); (focus (refine (sd_app (pv 4) ?_); (focus (exact (pd_var (pv 5)))))))))); (focus (refine (sd_frz 4 (sd_one ?_)); (focus (refine (sd_ret ?_); (focus (refine (pd_tupRev rfl rfl n_tuple rfl n_reversed ?_); (focus (exact (pd_var (pv 4))))))))))))))))))
theorem ok_places {fa : Addr} {dV : Value} {fd : FuncData} (F : Fun2 K "places" "places" s_places dV fa fd) {a_end_marks : Addr} {fd_end_marks : FuncData} (c_end_marks : Cal P w K mg base "end_marks" 3 ["row", "pattern", "gap"] 3 f_end_marks a_end_marks fd_end_marks) (b_end_marks : Binds K fd_end_marks ["row", "pattern", "gap"] []) (n_len : mg "len" = none) (n_reversed : mg "reversed" = none) (n_tuple : mg "tuple" = none) : FnOk P w K mg base CX0 4 fa fd ["row", "pattern", "gap"] (spD K 3 f_places) :=
  F.okn (k := 3) (n := 7) (ar := 3) (k1 := 4) (u := u_places) sc_places rfl rfl rfl fun cdv A outer s H E hr => (by first | (with_reducible exact bd_places c_end_marks b_end_marks n_len n_reversed n_tuple hr) | exact bd_places c_end_marks b_end_marks n_len n_reversed n_tuple hr)
abbrev s_law_near : Stmt := top 17
def N_law_near : List Str := ["_law_row_here", "_law_one", "_law_other", "_law_most"]
theorem nd_law_near : (N_law_near).Nodup := by decide +kernel
theorem sc_law_near : FnScope N_law_near ["_law_row_here", "_law_one", "_law_other", "_law_most"] (defScope s_law_near) := ⟨rfl, rfl, rfl, nd_law_near, rfl, by decide +kernel, by decide +kernel⟩
def u_law_near : FS := (sRet (eAnd (eOp oLt' (eV 1) (eV 2)) (eOr (eOp (oIs false) (eV 3) (eC .non)) (eOp oLe (eOp oSub (eOp oIx (eOp oIx (eV 0) (eV 2)) (eC (.int 0))) (eOp oIx (eOp oIx (eV 0) (eV 1)) (eC (.int 0)))) (eV 3)))))
def f_law_near : List D → Option D := runFn 4 u_law_near
set_option maxHeartbeats 4000000 in
theorem bd_law_near {fa : Addr} {cdv : Value} {A : Around} {outer : List Env} {s : Shared} {H : Hp} {E : XK}  (hr : Room 0 (A.deeper (envOfC "_law_near" (defScope s_law_near) s.heap.objs.size fa cdv))) :
    PSs (cxOf CX0 P w K mg base N_law_near "_law_near" (defScope s_law_near) fa cdv A outer s H E).nox (defBody s_law_near) (tDS K u_law_near) := by
  unfold u_law_near
  refine (sd_one ?_); (focus (refine (sd_ret ?_); (focus (refine (pd_and ?_ (pd_one ?_)); (focus (refine (pd_cmp od_lt' ?_ ?_); (focus (exact (pd_var (pv 1)))); (focus (exact (pd_var (pv 2)))))); (focus (refine (pd_or ?_ (pd_one ?_)); (focus (refine (pd_cmp (od_is rfl) ?_ pd_non); (focus (exact (pd_var (pv 3)))))); (focus (refine (pd_cmp od_le ?_ ?_); (focus (refine (pd_op od_sub ?_ ?_); (focus (refine (pd_ix ?_ pd_int); (focus (refine (pd_ix ?_ ?_); (focus (exact (pd_var (pv 0)))); (focus (exact (pd_var (pv 2)))))))); (focus (refine (pd_ix ?_ pd_int); (focus (refine (pd_ix ?_ ?_); (focus (exact (pd_var (pv 0)))); (focus (exact (pd_var (pv 1)))))))))); (focus (exact (pd_var (pv 3))))))))))))
theorem ok_law_near {fa : Addr} {dV : Value} {fd : FuncData} (F : Fun2 K "_law_near" "_law_near" s_law_near dV fa fd)  : FnOk P w K mg base CX0 1 fa fd ["_law_row_here", "_law_one", "_law_other", "_law_most"] (spD K 4 f_law_near) :=
  F.okn (k := 0) (n := 4) (ar := 4) (k1 := 1) (u := u_law_near) sc_law_near rfl rfl rfl fun cdv A outer s H E hr => (by first | (with_reducible exact bd_law_near  hr) | exact bd_law_near  hr)
abbrev s_law_comes : Stmt := top 18
def N_law_comes : List Str := ["_law_row_here", "_law_pattern_here", "_law_most", "_law_before", "_law_some", "_law_here", "_law_place", "_law_near_here"]
theorem nd_law_comes : (N_law_comes).Nodup := by decide +kernel
theorem sc_law_comes : FnScope N_law_comes ["_law_row_here", "_law_pattern_here", "_law_most"] (defScope s_law_comes) := ⟨rfl, rfl, rfl, nd_law_comes, rfl, by decide +kernel, by decide +kernel⟩
theorem nd_law_comes_1 : (["_law_ware", "_law_row_here", "_law_place"] : List Str).Nodup := by decide +kernel
theorem nd_law_comes_2 : (["_law_one", "_law_row_here", "_law_place", "_law_most"] : List Str).Nodup := by decide +kernel
def lb_law_comes_1 : FS := (sIf (bCmp oEq (eL (lComp (iSeq (eV 4)) [none, some 0, some 6] (bN 0) (bCmp (oIn true) (eV 0) (eOp oIx (eOp oIx (eV 1) (eV 2)) (eC (.int 1)))) (eV 0))) (eL (lLst aNil))) (sSeq (sSet 7 (eV 3)) (sFrz 7 (sSeq (sIf (bCmp (oIs true) (eV 3) (eC .non)) (sOwn 7 (lComp (iSeq (eV 3)) [none, some 0, some 6, some 2] (bN 0) (bT (eCall (callD 4 [] f_law_near) (aCons (eV 1) (aCons (eV 0) (aCons (eV 2) (aCons (eV 3) aNil)))))) (eV 0))) sNil) (sFrz 7 (sIf (bCmp oNe4 (eV 7) (eL (lLst aNil))) (sApp 5 (eV 6)) sNil))))) sNil)
def lb_law_comes_2 : FS := (sSeq (sOwn 5 (lLst aNil)) (sSeq (sFor (iR1 (aCons (eCall oLen (aCons (eV 0) aNil)) aNil)) (bN 6) lb_law_comes_1) (sFrz 7 (sFrz 5 (sSet 3 (eV 5))))))
def u_law_comes : FS := (sSeq (sSet 3 (eC .non)) (sSeq (sFor (iSeq (eV 1)) (bN 4) lb_law_comes_2) (sFrz 7 (sFrz 5 (sRet (eOp oNe4 (eV 3) (eL (lLst aNil))))))))
def f_law_comes : List D → Option D := runFn 8 u_law_comes
set_option maxHeartbeats 4000000 in
theorem bd_law_comes {fa : Addr} {cdv : Value} {A : Around} {outer : List Env} {s : Shared} {H : Hp} {E : XK} {a__law_near : Addr} {fd__law_near : FuncData} (c__law_near : Cal P w K mg base "_law_near" 1 ["_law_row_here", "_law_one", "_law_other", "_law_most"] 4 f_law_near a__law_near fd__law_near) (b__law_near : Binds K fd__law_near ["_law_row_here", "_law_one", "_law_other", "_law_most"] []) (n_range : mg "range" = none) (n_len : mg "len" = none) (hr : Room 1 (A.deeper (envOfC "_law_comes" (defScope s_law_comes) s.heap.objs.size fa cdv))) :
    PSs (cxOf CX0 P w K mg base N_law_comes "_law_comes" (defScope s_law_comes) fa cdv A outer s H E).nox (defBody s_law_comes) (tDS K u_law_comes) := by
  unfold u_law_comes lb_law_comes_2 lb_law_comes_1
  refine (sd_cons ?_ ?_); (focus (refine (sd_set (i := 3) ?_ ?_ ?_ pd_non ?_ ?_); (focus (exact nd_law_comes)); (focus (exact rfl)); (focus (exact (Or.inl rfl))); (focus (exact rfl)); (focus (exact (by first | exact .inl rfl | exact .inr rfl | assumption))))); (focus (refine (sd_cons ?_ ?_); (focus (refine (sd_for PassesOwn.never rfl ?_ (gd_name nd_law_comes rfl (Or.inl rfl) (.inl rfl)) (sd_cons ?_ ?_)); (focus (refine (id_seq ?_); (focus (exact (pd_var (pv 1)))))); (focus (exact (sd_own (i := 5) nd_law_comes rfl (Or.inl rfl) (ld_lst ad_nil)))); (focus (refine (sd_cons ?_ ?_); (focus (refine (sd_for PassesOwn.never rfl ?_ (gd_name nd_law_comes rfl (Or.inr rfl) (.inl rfl)) (sd_one ?_)); (focus (refine (id_range1 rfl n_range ?_); (focus ((refine ad_cons (hs := ?hs) ?a ?_); (case hs => exact star_ns rfl); (case a => (refine (pd_callB (cd_len) rfl n_len DL.boot_len' ?_); (focus ((refine ad_cons (hs := ?hs) ?a ?_); (case hs => exact star_ns rfl); (case a => (exact (pd_var (pv 0)))); exact ad_nil)))); exact ad_nil)))); (focus (refine (sd_if ?_ (sd_cons ?_ ?_) sd_nil); (focus (refine (td_cmp (od_eq hr.units) ?_ ?_); (focus (refine (pd_l ?_); (focus (refine (ld_comp (N' := ["_law_ware", "_law_row_here", "_law_place"]) (cap := [none, some 0, some 6]) rfl (capOk_of rfl rfl) (fresh_name rfl) ?_ (fun _ _ _ _ _ => (gd_name nd_law_comes_1 rfl (Or.inl rfl) (.inr rfl))) (fun _ _ _ _ _ => (cd_one ?_)) (fun _ _ _ _ _ => ?_)); (focus (refine (id_seq ?_); (focus (exact (pd_var (pv 4)))))); (focus (refine (td_cmp od_notin ?_ ?_); (focus (exact (pd_var (pv 0)))); (focus (refine (pd_ix ?_ pd_int); (focus (refine (pd_ix ?_ ?_); (focus (exact (pd_var (pv 1)))); (focus (exact (pd_var (pv 2)))))))))); (focus (exact (pd_var (pv 0)))))))); (focus (refine (pd_l ?_); (focus (exact (ld_lst ad_nil))))))); (focus (refine (sd_set (i := 7) ?_ ?_ ?_ ?_ ?_ ?_); (focus (exact nd_law_comes)); (focus (exact rfl)); (focus (exact (Or.inl rfl))); (focus (exact (pd_var (pv 3)))); (focus (exact rfl)); (focus (exact (by first | exact .inl rfl | exact .inr rfl | assumption))))); (focus (refine (sd_frz 7 (sd_cons ?_ ?_)); (focus (refine (sd_if ?_ (sd_one ?_) sd_nil); (focus (refine (td_cmp (od_isnot rfl) ?_ pd_non); (focus (exact (pd_var (pv 3)))))); (focus (refine (sd_comp (i := 7) rfl nd_law_comes rfl rfl (N' := ["_law_one", "_law_row_here", "_law_place", "_law_most"]) (cap := [none, some 0, some 6, some 2]) (capOk_of rfl rfl) (fresh_name rfl) ?_ (fun _ _ _ _ _ => (gd_name nd_law_comes_2 rfl (Or.inl rfl) (.inr rfl))) (fun _ _ _ _ _ => (cd_one ?_)) (fun _ _ _ _ _ => ?_)); (focus (refine (id_seq ?_); (focus (exact (pd_var (pv 3)))))); (focus (refine (td_val ?_); (focus (refine (pd_cal c__law_near b__law_near hr (by decide) rfl ?_); (focus ((refine ad_cons (hs := ?hs) ?a ?_); (case hs => exact star_ns rfl); (case a => (exact (pd_var (pv 1)))); (refine ad_cons (hs := ?hs) ?a ?_); (case hs => exact star_ns rfl); (case a => (exact (pd_var (pv 0)))); (refine ad_cons (hs := ?hs) ?a ?_); (case hs => exact star_ns rfl); (case a => (exact (pd_var (pv 2)))); (refine ad_cons (hs := ?hs) ?a ?_); (case hs => exact star_ns rfl); (case a => (exact (pd_var (pv 3)))); exact ad_nil)))))); (focus (exact (pd_var (pv 0)))))))); (focus (refine (sd_frz 7 (sd_one ?_)); (focus (refine (sd_if ?_ (sd_one ?_) sd_nil); (focus (refine (td_cmp (od_ne4 hr.units) ?_ ?_); (focus (exact (pd_var (pv 7)))); (focus (refine (pd_l ?_); (focus (exact (ld_lst ad_nil))))))); (focus (refine (sd_app (pv 5) ?_); (focus (exact (pd_var (pv 6)))))))))))))))); (focus (refine (sd_frz 7 (sd_frz 5 (sd_one ?_))); (focus (refine (sd_set (i := 3) ?_ ?_ ?_ ?_ ?_ ?_); (focus (exact nd_law_comes)); (focus (exact rfl)); (focus (exact (Or.inl rfl))); (focus (exact (pd_var (pv 5)))); (focus (exact rfl)); (focus (exact (by first | exact .inl rfl | exact .inr rfl | assumption))))))))))); (focus (refine (sd_frz 7 (sd_frz 5 (sd_one ?_))); (focus (refine (sd_ret ?_); (focus (refine (pd_cmp (od_ne4 hr.units) ?_ ?_); (focus (exact (pd_var (pv 3)))); (focus (refine (pd_l ?_); (focus (exact (ld_lst ad_nil)))))))))))))
theorem ok_law_comes {fa : Addr} {dV : Value} {fd : FuncData} (F : Fun2 K "_law_comes" "_law_comes" s_law_comes dV fa fd) {a__law_near : Addr} {fd__law_near : FuncData} (c__law_near : Cal P w K mg base "_law_near" 1 ["_law_row_here", "_law_one", "_law_other", "_law_most"] 4 f_law_near a__law_near fd__law_near) (b__law_near : Binds K fd__law_near ["_law_row_here", "_law_one", "_law_other", "_law_most"] []) (n_range : mg "range" = none) (n_len : mg "len" = none) : FnOk P w K mg base CX0 2 fa fd ["_law_row_here", "_law_pattern_here", "_law_most"] (spD K 3 f_law_comes) :=
  F.okn (k := 1) (n := 8) (ar := 3) (k1 := 2) (u := u_law_comes) sc_law_comes rfl rfl rfl fun cdv A outer s H E hr => (by first | (with_reducible exact bd_law_comes c__law_near b__law_near n_range n_len hr) | exact bd_law_comes c__law_near b__law_near n_range n_len hr)
abbrev s_law_walked : Stmt := top 19
def N_law_walked : List Str := ["_law_row_here", "_law_pattern_here", "_law_most", "_law_found", "_law_k"]
theorem nd_law_walked : (N_law_walked).Nodup := by decide +kernel
theorem sc_law_walked : FnScope N_law_walked ["_law_row_here", "_law_pattern_here", "_law_most", "_law_found"] (defScope s_law_walked) := ⟨rfl, rfl, rfl, nd_law_walked, rfl, by decide +kernel, by decide +kernel⟩
theorem nd_law_walked_1 : (["_law_ware", "_law_row_here", "_law_found", "_law_k"] : List Str).Nodup := by decide +kernel
def lb_law_walked_1 : FS := (sSeq (sIf (bOr (bNot (bT (eIsi .int (eOp oIx (eV 3) (eV 4))))) (bOr (bT (eIsi .bool (eOp oIx (eV 3) (eV 4)))) (bOr (bCmp oLt' (eOp oIx (eV 3) (eV 4)) (eC (.int 0))) (bCmp oGe (eOp oIx (eV 3) (eV 4)) (eCall oLen (aCons (eV 0) aNil)))))) (sRet (eC (.bl false))) sNil) (sSeq (sIf (bCmp oNe4 (eL (lComp (iSeq (eOp oIx (eV 1) (eV 4))) [none, some 0, some 3, some 4] (bN 0) (bCmp (oIn true) (eV 0) (eOp oIx (eOp oIx (eV 1) (eOp oIx (eV 2) (eV 3))) (eC (.int 1)))) (eV 0))) (eL (lLst aNil))) (sRet (eC (.bl false))) sNil) (sIf (bAnd (bCmp oGt (eV 4) (eC (.int 0))) (bNot (bT (eCall (callD 4 [] f_law_near) (aCons (eV 0) (aCons (eOp oIx (eV 3) (eOp oSub (eV 4) (eC (.int 1)))) (aCons (eOp oIx (eV 3) (eV 4)) (aCons (eV 2) aNil)))))))) (sRet (eC (.bl false))) sNil)))
def u_law_walked : FS := (sSeq (sIf (bOr (bNot (bT (eIsi .tuple (eV 3)))) (bCmp oNeF (eCall oLen (aCons (eV 3) aNil)) (eCall oLen (aCons (eV 1) aNil)))) (sRet (eC (.bl false))) sNil) (sSeq (sFor (iR1 (aCons (eCall oLen (aCons (eV 3) aNil)) aNil)) (bN 4) lb_law_walked_1) (sRet (eC (.bl true)))))
def f_law_walked : List D → Option D := runFn 5 u_law_walked
set_option maxHeartbeats 4000000 in
theorem bd_law_walked {fa : Addr} {cdv : Value} {A : Around} {outer : List Env} {s : Shared} {H : Hp} {E : XK} {a__law_near : Addr} {fd__law_near : FuncData} (c__law_near : Cal P w K mg base "_law_near" 1 ["_law_row_here", "_law_one", "_law_other", "_law_most"] 4 f_law_near a__law_near fd__law_near) (b__law_near : Binds K fd__law_near ["_law_row_here", "_law_one", "_law_other", "_law_most"] []) (n_range : mg "range" = none) (n_len : mg "len" = none) (n_isinstance : mg "isinstance" = none) (n_tuple : mg "tuple" = none) (n_bool : mg "bool" = none) (n_int : mg "int" = none) (hr : Room 1 (A.deeper (envOfC "_law_walked" (defScope s_law_walked) s.heap.objs.size fa cdv))) :
    PSs (cxOf CX0 P w K mg base N_law_walked "_law_walked" (defScope s_law_walked) fa cdv A outer s H E).nox (defBody s_law_walked) (tDS K u_law_walked) := by
  unfold u_law_walked lb_law_walked_1
  refine (sd_cons ?_ ?_); (focus (refine (sd_if ?_ (sd_one ?_) sd_nil); (focus (refine (PW.pt (tw_or ?_ (tw_or1 ?_))); (focus (refine (td_not ?_); (focus (refine (td_val ?_); (focus (refine (pd_isi .tuple rfl n_isinstance rfl n_tuple DL.boot_tuple ?_); (focus (exact (pd_var (pv 3)))))))))); (focus (refine (td_cmp od_neF ?_ ?_); (focus (refine (pd_callB (cd_len) rfl n_len DL.boot_len' ?_); (focus ((refine ad_cons (hs := ?hs) ?a ?_); (case hs => exact star_ns rfl); (case a => (exact (pd_var (pv 3)))); exact ad_nil)))); (focus (refine (pd_callB (cd_len) rfl n_len DL.boot_len' ?_); (focus ((refine ad_cons (hs := ?hs) ?a ?_); (case hs => exact star_ns rfl); (case a => (exact (pd_var (pv 1)))); exact ad_nil)))))))); (focus (exact (sd_ret pd_bl))))); (focus (refine (sd_cons ?_ ?_); (focus (refine (sd_for PassesOwn.never rfl ?_ (gd_name nd_law_walked rfl (Or.inr rfl) (.inl rfl)) (sd_cons ?_ ?_)); (focus (refine (id_range1 rfl n_range ?_); (focus ((refine ad_cons (hs := ?hs) ?a ?_); (case hs => exact star_ns rfl); (case a => (refine (pd_callB (cd_len) rfl n_len DL.boot_len' ?_); (focus ((refine ad_cons (hs := ?hs) ?a ?_); (case hs => exact star_ns rfl); (case a => (exact (pd_var (pv 3)))); exact ad_nil)))); exact ad_nil)))); (focus (refine (sd_if ?_ (sd_one ?_) sd_nil); (focus (refine (PW.pt (tw_or ?_ (tw_or ?_ (tw_or ?_ (tw_or1 ?_))))); (focus (refine (td_not ?_); (focus (refine (td_val ?_); (focus (refine (pd_isi .int rfl n_isinstance rfl n_int DL.boot_int ?_); (focus (refine (pd_ix ?_ ?_); (focus (exact (pd_var (pv 3)))); (focus (exact (pd_var (pv 4)))))))))))); (focus (refine (td_val ?_); (focus (refine (pd_isi .bool rfl n_isinstance rfl n_bool DL.boot_bool ?_); (focus (refine (pd_ix ?_ ?_); (focus (exact (pd_var (pv 3)))); (focus (exact (pd_var (pv 4)))))))))); (focus (refine (td_cmp od_lt' ?_ pd_int); (focus (refine (pd_ix ?_ ?_); (focus (exact (pd_var (pv 3)))); (focus (exact (pd_var (pv 4)))))))); (focus (refine (td_cmp od_ge ?_ ?_); (focus (refine (pd_ix ?_ ?_); (focus (exact (pd_var (pv 3)))); (focus (exact (pd_var (pv 4)))))); (focus (refine (pd_callB (cd_len) rfl n_len DL.boot_len' ?_); (focus ((refine ad_cons (hs := ?hs) ?a ?_); (case hs => exact star_ns rfl); (case a => (exact (pd_var (pv 0)))); exact ad_nil)))))))); (focus (exact (sd_ret pd_bl))))); (focus (refine (sd_cons ?_ ?_); (focus (refine (sd_if ?_ (sd_one ?_) sd_nil); (focus (refine (td_cmp (od_ne4 hr.units) ?_ ?_); (focus (refine (pd_l ?_); (focus (refine (ld_comp (N' := ["_law_ware", "_law_row_here", "_law_found", "_law_k"]) (cap := [none, some 0, some 3, some 4]) rfl (capOk_of rfl rfl) (fresh_name rfl) ?_ (fun _ _ _ _ _ => (gd_name nd_law_walked_1 rfl (Or.inl rfl) (.inr rfl))) (fun _ _ _ _ _ => (cd_one ?_)) (fun _ _ _ _ _ => ?_)); (focus (refine (id_seq ?_); (focus (refine (pd_ix ?_ ?_); (focus (exact (pd_var (pv 1)))); (focus (exact (pd_var (pv 4)))))))); (focus (refine (td_cmp od_notin ?_ ?_); (focus (exact (pd_var (pv 0)))); (focus (refine (pd_ix ?_ pd_int); (focus (refine (pd_ix ?_ ?_); (focus (exact (pd_var (pv 1)))); (focus (refine (pd_ix ?_ ?_); (focus (exact (pd_var (pv 2)))); (focus (exact (pd_var (pv 3)))))))))))); (focus (exact (pd_var (pv 0)))))))); (focus (refine (pd_l ?_); (focus (exact (ld_lst ad_nil))))))); (focus (exact (sd_ret pd_bl))))); (focus (refine (sd_one ?_); (focus (refine (sd_if ?_ (sd_one ?_) sd_nil); (focus (refine (PW.pt (tw_and ?_ (tw_and1 ?_))); (focus (refine (td_cmp od_gt ?_ pd_int); (focus (exact (pd_var (pv 4)))))); (focus (refine (td_not ?_); (focus (refine (td_val ?_); (focus (refine (pd_cal c__law_near b__law_near hr (by decide) rfl ?_); (focus ((refine ad_cons (hs := ?hs) ?a ?_); (case hs => exact star_ns rfl); (case a => (exact (pd_var (pv 0)))); (refine ad_cons (hs := ?hs) ?a ?_); (case hs => exact star_ns rfl); (case a => (refine (pd_ix ?_ ?_); (focus (exact (pd_var (pv 3)))); (focus (refine (pd_op od_sub ?_ pd_int); (focus (exact (pd_var (pv 4)))))))); (refine ad_cons (hs := ?hs) ?a ?_); (case hs => exact star_ns rfl); (case a => (refine (pd_ix ?_ ?_); (focus (exact (pd_var (pv 3)))); (focus (exact (pd_var (pv 4)))))); (refine ad_cons (hs := ?hs) ?a ?_); (case hs => exact star_ns rfl); (case a => (exact (pd_var (pv 2)))); exact ad_nil)))))))))); (focus (exact (sd_ret pd_bl))))))))))); (focus (refine (sd_one ?_); (focus (exact (sd_ret pd_bl)))))))
theorem ok_law_walked {fa : Addr} {dV : Value} {fd : FuncData} (F : Fun2 K "_law_walked" "_law_walked" s_law_walked dV fa fd) {a__law_near : Addr} {fd__law_near : FuncData} (c__law_near : Cal P w K mg base "_law_near" 1 ["_law_row_here", "_law_one", "_law_other", "_law_most"] 4 f_law_near a__law_near fd__law_near) (b__law_near : Binds K fd__law_near ["_law_row_here", "_law_one", "_law_other", "_law_most"] []) (n_range : mg "range" = none) (n_len : mg "len" = none) (n_isinstance : mg "isinstance" = none) (n_tuple : mg "tuple" = none) (n_bool : mg "bool" = none) (n_int : mg "int" = none) : FnOk P w K mg base CX0 2 fa fd ["_law_row_here", "_law_pattern_here", "_law_most", "_law_found"] (spD K 4 f_law_walked) :=
  F.okn (k := 1) (n := 5) (ar := 4) (k1 := 2) (u := u_law_walked) sc_law_walked rfl rfl rfl fun cdv A outer s H E hr => (by first | (with_reducible exact bd_law_walked c__law_near b__law_near n_range n_len n_isinstance n_tuple n_bool n_int hr) | exact bd_law_walked c__law_near b__law_near n_range n_len n_isinstance n_tuple n_bool n_int hr)
abbrev s_law_told : Stmt := top 20
def N_law_told : List Str := ["_law_row_here", "_law_pattern_here", "_law_most", "_law_found"]
theorem nd_law_told : (N_law_told).Nodup := by decide +kernel
theorem sc_law_told : FnScope N_law_told ["_law_row_here", "_law_pattern_here", "_law_most"] (defScope s_law_told) := ⟨rfl, rfl, rfl, nd_law_told, rfl, by decide +kernel, by decide +kernel⟩
def u_law_told : FS := (sSeq (sIf (bCmp (oIs false) (eV 2) (eC .non)) (sSet 3 (eCall (callD 3 [.non] f_places) (aCons (eV 0) (aCons (eV 1) aNil)))) (sSet 3 (eCall (callD 3 [] f_places) (aCons (eV 0) (aCons (eV 1) (aCons (eV 2) aNil)))))) (sSeq (sIf (bNot (bT (eCall (callD 3 [] f_law_comes) (aCons (eV 0) (aCons (eV 1) (aCons (eV 2) aNil)))))) (sRet (eOp (oIs false) (eV 3) (eC .non))) sNil) (sRet (eAnd (eCall (callD 4 [] f_law_walked) (aCons (eV 0) (aCons (eV 1) (aCons (eV 2) (aCons (eV 3) aNil))))) (eOp oEq (eCall (callD 3 [] f_places) (aCons (eV 0) (aCons (eV 1) (aCons (eV 2) aNil)))) (eV 3))))))
def f_law_told : List D → Option D := runFn 4 u_law_told
set_option maxHeartbeats 4000000 in
theorem bd_law_told {fa : Addr} {cdv : Value} {A : Around} {outer : List Env} {s : Shared} {H : Hp} {E : XK} {a_places : Addr} {fd_places : FuncData} (c_places : Cal P w K mg base "places" 4 ["row", "pattern", "gap"] 3 f_places a_places fd_places) (b_places : Binds K fd_places ["row", "pattern", "gap"] []) {dvs_places_1 : List V} {dv_l_places_1 : List Value} (bd_places_1 : Binds K fd_places ["row", "pattern", "gap"] dv_l_places_1) (dv_places_1 : Vals dvs_places_1 dv_l_places_1) (dd_places_1 : ∀ {H : Hp}, RepL K H [.non] dvs_places_1) {a__law_comes : Addr} {fd__law_comes : FuncData} (c__law_comes : Cal P w K mg base "_law_comes" 2 ["_law_row_here", "_law_pattern_here", "_law_most"] 3 f_law_comes a__law_comes fd__law_comes) (b__law_comes : Binds K fd__law_comes ["_law_row_here", "_law_pattern_here", "_law_most"] []) {a__law_walked : Addr} {fd__law_walked : FuncData} (c__law_walked : Cal P w K mg base "_law_walked" 2 ["_law_row_here", "_law_pattern_here", "_law_most", "_law_found"] 4 f_law_walked a__law_walked fd__law_walked) (b__law_walked : Binds K fd__law_walked ["_law_row_here", "_law_pattern_here", "_law_most", "_law_found"] []) (hr : Room 4 (A.deeper (envOfC "_law_told" (defScope s_law_told) s.heap.objs.size fa cdv))) :
    PSs (cxOf CX0 P w K mg base N_law_told "_law_told" (defScope s_law_told) fa cdv A outer s H E).nox (defBody s_law_told) (tDS K u_law_told) := by
  unfold u_law_told
  refine (sd_cons ?_ ?_); (focus (refine (sd_if ?_ (sd_one ?_) (sd_one ?_)); (focus (refine (td_cmp (od_is rfl) ?_ pd_non); (focus (exact (pd_var (pv 2)))))); (focus (refine (sd_set (i := 3) ?_ ?_ ?_ ?_ ?_ ?_); (focus (exact nd_law_told)); (focus (exact rfl)); (focus (exact (Or.inl rfl))); (focus (refine (pd_calD c_places bd_places_1 dv_places_1 (fun _ => dd_places_1) hr (by decide) rfl ?_); (focus ((refine ad_cons (hs := ?hs) ?a ?_); (case hs => exact star_ns rfl); (case a => (exact (pd_var (pv 0)))); (refine ad_cons (hs := ?hs) ?a ?_); (case hs => exact star_ns rfl); (case a => (exact (pd_var (pv 1)))); exact ad_nil)))); (focus (exact rfl)); (focus (exact (by first | exact .inl rfl | exact .inr rfl | assumption))))); (focus (refine (sd_set (i := 3) ?_ ?_ ?_ ?_ ?_ ?_); (focus (exact nd_law_told)); (focus (exact rfl)); (focus (exact (Or.inl rfl))); (focus (refine (pd_cal c_places b_places hr (by decide) rfl ?_); (focus ((refine ad_cons (hs := ?hs) ?a ?_); (case hs => exact star_ns rfl); (case a => (exact (pd_var (pv 0)))); (refine ad_cons (hs := ?hs) ?a ?_); (case hs => exact star_ns rfl); (case a => (exact (pd_var (pv 1)))); (refine ad_cons (hs := ?hs) ?a ?_); (case hs => exact star_ns rfl); (case a => (exact (pd_var (pv 2)))); exact ad_nil)))); (focus (exact rfl)); (focus (exact (by first | exact .inl rfl | exact .inr rfl | assumption))))))); (focus (refine (sd_cons ?_ ?_); (focus (refine (sd_if ?_ (sd_one ?_) sd_nil); (focus (refine (td_not ?_); (focus (refine (td_val ?_); (focus (refine (pd_cal c__law_comes b__law_comes hr (by decide) rfl ?_); (focus ((refine ad_cons (hs := ?hs) ?a ?_); (case hs => exact star_ns rfl); (case a => (exact (pd_var (pv 0)))); (refine ad_cons (hs := ?hs) ?a ?_); (case hs => exact star_ns rfl); (case a => (exact (pd_var (pv 1)))); (refine ad_cons (hs := ?hs) ?a ?_); (case hs => exact star_ns rfl); (case a => (exact (pd_var (pv 2)))); exact ad_nil)))))))); (focus (refine (sd_ret ?_); (focus (refine (pd_cmp (od_is rfl) ?_ pd_non); (focus (exact (pd_var (pv 3)))))))))); (focus (refine (sd_one ?_); (focus (refine (sd_ret ?_); (focus (refine (pd_and ?_ (pd_one ?_)); (focus (refine (pd_cal c__law_walked b__law_walked hr (by decide) rfl ?_); (focus ((refine ad_cons (hs := ?hs) ?a ?_); (case hs => exact star_ns rfl); (case a => (exact (pd_var (pv 0)))); (refine ad_cons (hs := ?hs) ?a ?_); (case hs => exact star_ns rfl); (case a => (exact (pd_var (pv 1)))); (refine ad_cons (hs := ?hs) ?a ?_); (case hs => exact star_ns rfl); (case a => (exact (pd_var (pv 2)))); (refine ad_cons (hs := ?hs) ?a ?_); (case hs => exact star_ns rfl); (case a => (exact (pd_var (pv 3)))); exact ad_nil)))); (focus (refine (pd_cmp (od_eq hr.units) ?_ ?_); (focus (refine (pd_cal c_places b_places hr (by decide) rfl ?_); (focus ((refine ad_cons (hs := ?hs) ?a ?_); (case hs => exact star_ns rfl); (case a => (exact (pd_var (pv 0)))); (refine ad_cons (hs := ?hs) ?a ?_); (case hs => exact star_ns rfl); (case a => (exact (pd_var (pv 1)))); (refine ad_cons (hs := ?hs) ?a ?_); (case hs => exact star_ns rfl); (case a => (exact (pd_var (pv 2)))); exact ad_nil)))); (focus (exact (pd_var (pv 3))))))))))))))
theorem ok_law_told {fa : Addr} {dV : Value} {fd : FuncData} (F : Fun2 K "_law_told" "_law_told" s_law_told dV fa fd) {a_places : Addr} {fd_places : FuncData} (c_places : Cal P w K mg base "places" 4 ["row", "pattern", "gap"] 3 f_places a_places fd_places) (b_places : Binds K fd_places ["row", "pattern", "gap"] []) {dvs_places_1 : List V} {dv_l_places_1 : List Value} (bd_places_1 : Binds K fd_places ["row", "pattern", "gap"] dv_l_places_1) (dv_places_1 : Vals dvs_places_1 dv_l_places_1) (dd_places_1 : ∀ {H : Hp}, RepL K H [.non] dvs_places_1) {a__law_comes : Addr} {fd__law_comes : FuncData} (c__law_comes : Cal P w K mg base "_law_comes" 2 ["_law_row_here", "_law_pattern_here", "_law_most"] 3 f_law_comes a__law_comes fd__law_comes) (b__law_comes : Binds K fd__law_comes ["_law_row_here", "_law_pattern_here", "_law_most"] []) {a__law_walked : Addr} {fd__law_walked : FuncData} (c__law_walked : Cal P w K mg base "_law_walked" 2 ["_law_row_here", "_law_pattern_here", "_law_most", "_law_found"] 4 f_law_walked a__law_walked fd__law_walked) (b__law_walked : Binds K fd__law_walked ["_law_row_here", "_law_pattern_here", "_law_most", "_law_found"] []) : FnOk P w K mg base CX0 5 fa fd ["_law_row_here", "_law_pattern_here", "_law_most"] (spD K 3 f_law_told) :=
  F.okn (k := 4) (n := 4) (ar := 3) (k1 := 5) (u := u_law_told) sc_law_told rfl rfl rfl fun cdv A outer s H E hr => (by first | (with_reducible exact bd_law_told c_places b_places bd_places_1 dv_places_1 dd_places_1 c__law_comes b__law_comes c__law_walked b__law_walked hr) | exact bd_law_told c_places b_places bd_places_1 dv_places_1 dd_places_1 c__law_comes b__law_comes c__law_walked b__law_walked hr)
abbrev s_law : Stmt := top 21
def N_law : List Str := ["_law_script", "_law_row_here", "_law_pattern_here", "_law_most", "_law_size"]
theorem nd_law : (N_law).Nodup := by decide +kernel
theorem sc_law : FnScope N_law ["_law_script"] (defScope s_law) := ⟨rfl, rfl, rfl, nd_law, rfl, by decide +kernel, by decide +kernel⟩
def lb_law_1 : FS := (sIf (bNot (bT (eCall (callD 3 [] f_law_told) (aCons (eV 1) (aCons (eSl (eV 2) oNo (oAt (eV 4))) (aCons (eV 3) aNil)))))) (sRet (eC (.bl false))) sNil)
def u_law : FS := (sSeq (sSet 1 (eCall (callD 1 [] f_law_row) (aCons (eV 0) aNil))) (sSeq (sSet 2 (eCall (callD 1 [] f_law_pattern) (aCons (eCall (callD 2 [] f_law_number) (aCons (eV 0) (aCons (eC (.int 1)) aNil))) aNil))) (sSeq (sSet 3 (eCall (callD 2 [] f_law_gap) (aCons (eCall (callD 2 [] f_law_number) (aCons (eV 0) (aCons (eC (.int 2)) aNil))) (aCons (eV 1) aNil)))) (sSeq (sFor (iR2 (aCons (eC (.int 1)) (aCons (eOp oPlus (eCall oLen (aCons (eV 2) aNil)) (eC (.int 1))) aNil))) (bN 4) lb_law_1) (sSeq (sIf (bAnd (bCmp oGt (eCall oLen (aCons (eV 2) aNil)) (eC (.int 1))) (bCmp (oIs true) (eCall (callK 3 f_places) (aApp 2 1 (aCons (eV 1) (aCons (eV 2) aNil)) (aCons (eC (.int 0)) aNil))) (eC .non))) (sRet (eC (.bl false))) sNil) (sSeq (sIf (bCmp (oIs true) (eCall (callD 3 [] f_places) (aCons (eTup aNil) (aCons (eV 2) (aCons (eV 3) aNil)))) (eC .non)) (sRet (eC (.bl false))) sNil) (sRet (eAnd (eCall (callD 3 [] f_law_told) (aCons (eV 1) (aCons (eV 2) (aCons (eC .non) aNil)))) (eCall (callD 3 [] f_law_told) (aCons (eV 1) (aCons (eRevS (eV 2) (eUn oNeg (eC (.int 1)))) (aCons (eV 3) aNil))))))))))))
def f_law : List D → Option D := runFn 5 u_law
set_option maxHeartbeats 4000000 in
theorem bd_law {fa : Addr} {cdv : Value} {A : Around} {outer : List Env} {s : Shared} {H : Hp} {E : XK} {a__law_row : Addr} {fd__law_row : FuncData} (c__law_row : Cal P w K mg base "_law_row" 3 ["_law_script"] 1 f_law_row a__law_row fd__law_row) (b__law_row : Binds K fd__law_row ["_law_script"] []) {a__law_pattern : Addr} {fd__law_pattern : FuncData} (c__law_pattern : Cal P w K mg base "_law_pattern" 2 ["_law_number_here"] 1 f_law_pattern a__law_pattern fd__law_pattern) (b__law_pattern : Binds K fd__law_pattern ["_law_number_here"] []) {a__law_gap : Addr} {fd__law_gap : FuncData} (c__law_gap : Cal P w K mg base "_law_gap" 1 ["_law_number_here", "_law_row_here"] 2 f_law_gap a__law_gap fd__law_gap) (b__law_gap : Binds K fd__law_gap ["_law_number_here", "_law_row_here"] []) {a__law_number : Addr} {fd__law_number : FuncData} (c__law_number : Cal P w K mg base "_law_number" 2 ["_law_script", "_law_k"] 2 f_law_number a__law_number fd__law_number) (b__law_number : Binds K fd__law_number ["_law_script", "_law_k"] []) {a_places : Addr} {fd_places : FuncData} (c_places : Cal P w K mg base "places" 4 ["row", "pattern", "gap"] 3 f_places a_places fd_places) (b_places : Binds K fd_places ["row", "pattern", "gap"] []) (kb_places : KB K fd_places ["row", "pattern", "gap"] ["gap"] 2 1) {a__law_told : Addr} {fd__law_told : FuncData} (c__law_told : Cal P w K mg base "_law_told" 5 ["_law_row_here", "_law_pattern_here", "_law_most"] 3 f_law_told a__law_told fd__law_told) (b__law_told : Binds K fd__law_told ["_law_row_here", "_law_pattern_here", "_law_most"] []) (n_range : mg "range" = none) (n_len : mg "len" = none) (hr : Room 5 (A.deeper (envOfC "law" (defScope s_law) s.heap.objs.size fa cdv))) :
    PSs (cxOf CX0 P w K mg base N_law "law" (defScope s_law) fa cdv A outer s H E).nox (defBody s_law) (tDS K u_law) := by
  unfold u_law lb_law_1
  refine (sd_cons ?_ ?_); (focus (refine (sd_set (i := 1) ?_ ?_ ?_ ?_ ?_ ?_); (focus (exact nd_law)); (focus (exact rfl)); (focus (exact (Or.inl rfl))); (focus (refine (pd_cal c__law_row b__law_row hr (by decide) rfl ?_); (focus ((refine ad_cons (hs := ?hs) ?a ?_); (case hs => exact star_ns rfl); (case a => (exact (pd_var (pv 0)))); exact ad_nil)))); (focus (exact rfl)); (focus (exact (by first | exact .inl rfl | exact .inr rfl | assumption))))); (focus (refine (sd_cons ?_ ?_); (focus (refine (sd_set (i := 2) ?_ ?_ ?_ ?_ ?_ ?_); (focus (exact nd_law)); (focus (exact rfl)); (focus (exact (Or.inl rfl))); (focus (refine (pd_cal c__law_pattern b__law_pattern hr (by decide) rfl ?_); (focus ((refine ad_cons (hs := ?hs) ?a ?_); (case hs => exact star_ns rfl); (case a => (refine (pd_cal c__law_number b__law_number hr (by decide) rfl ?_); (focus ((refine ad_cons (hs := ?hs) ?a ?_); (case hs => exact star_ns rfl); (case a => (exact (pd_var (pv 0)))); (refine ad_cons (hs := ?hs) ?a ?_); (case hs => exact star_ns rfl); (case a => (exact pd_int)); exact ad_nil)))); exact ad_nil)))); (focus (exact rfl)); (focus (exact (by first | exact .inl rfl | exact .inr rfl | assumption))))); (focus (refine (sd_cons ?_ ?_); (focus (refine (sd_set (i := 3) ?_ ?_ ?_ ?_ ?_ ?_); (focus (exact nd_law)); (focus (exact rfl)); (focus (exact (Or.inl rfl))); (focus (refine (pd_cal c__law_gap b__law_gap hr (by decide) rfl ?_); (focus ((refine ad_cons (hs := ?hs) ?a ?_); (case hs => exact star_ns rfl); (case a => (refine (pd_cal c__law_number b__law_number hr (by decide) rfl ?_); (focus ((refine ad_cons (hs := ?hs) ?a ?_); (case hs => exact star_ns rfl); (case a => (exact (pd_var (pv 0)))); (refine ad_cons (hs := ?hs) ?a ?_); (case hs => exact star_ns rfl); (case a => (exact pd_int)); exact ad_nil)))); (refine ad_cons (hs := ?hs) ?a ?_); (case hs => exact star_ns rfl); (case a => (exact (pd_var (pv 1)))); exact ad_nil)))); (focus (exact rfl)); (focus (exact (by first | exact .inl rfl | exact .inr rfl | assumption))))); (focus (refine (sd_cons ?_ ?_); (focus (refine (sd_for PassesOwn.never rfl ?_ (gd_name nd_law rfl (Or.inl rfl) (.inl rfl)) (sd_one ?_)); (focus (refine (id_range2 rfl n_range ?_); (focus ((refine ad_cons (hs := ?hs) ?a ?_); (case hs => exact star_ns rfl); (case a => (exact pd_int)); (refine ad_cons (hs := ?hs) ?a ?_); (case hs => exact star_ns rfl); (case a => (refine (pd_op od_plus ?_ pd_int); (focus (refine (pd_callB (cd_len) rfl n_len DL.boot_len' ?_); (focus ((refine ad_cons (hs := ?hs) ?a ?_); (case hs => exact star_ns rfl); (case a => (exact (pd_var (pv 2)))); exact ad_nil)))))); exact ad_nil)))); (focus (refine (sd_if ?_ (sd_one ?_) sd_nil); (focus (refine (td_not ?_); (focus (refine (td_val ?_); (focus (refine (pd_cal c__law_told b__law_told hr (by decide) rfl ?_); (focus ((refine ad_cons (hs := ?hs) ?a ?_); (case hs => exact star_ns rfl); (case a => (exact (pd_var (pv 1)))); (refine ad_cons (hs := ?hs) ?a ?_); (case hs => exact star_ns rfl); (case a => (refine (pd_slice ?_ pod_none (pod_some ?_)); (focus (exact (pd_var (pv 2)))); (focus (exact (pd_var (pv 4)))))); (refine ad_cons (hs := ?hs) ?a ?_); (case hs => exact star_ns rfl); (case a => (exact (pd_var (pv 3)))); exact ad_nil)))))))); (focus (exact (sd_ret pd_bl))))))); (focus (refine (sd_cons ?_ ?_); (focus (refine (sd_if ?_ (sd_one ?_) sd_nil); (focus (refine (PW.pt (tw_and ?_ (tw_and1 ?_))); (focus (refine (td_cmp od_gt ?_ pd_int); (focus (refine (pd_callB (cd_len) rfl n_len DL.boot_len' ?_); (focus ((refine ad_cons (hs := ?hs) ?a ?_); (case hs => exact star_ns rfl); (case a => (exact (pd_var (pv 2)))); exact ad_nil)))))); (focus (refine (td_cmp (od_isnot rfl) ?_ pd_non); (focus (refine (pd_calK c_places kb_places hr (by decide) rfl ?_ (kd_cons pd_int kd_nil)); (focus ((refine ad_cons (hs := ?hs) ?a ?_); (case hs => exact star_ns rfl); (case a => (exact (pd_var (pv 1)))); (refine ad_cons (hs := ?hs) ?a ?_); (case hs => exact star_ns rfl); (case a => (exact (pd_var (pv 2)))); exact ad_nil)))))))); (focus (exact (sd_ret pd_bl))))); (focus (refine (sd_cons ?_ ?_); (focus (refine (sd_if ?_ (sd_one ?_) sd_nil); (focus (refine (td_cmp (od_isnot rfl) ?_ pd_non); (focus (refine (pd_cal c_places b_places hr (by decide) rfl ?_); (focus ((refine ad_cons (hs := ?hs) ?a ?_); (case hs => exact star_ns rfl); (case a => (exact (pd_tup ad_nil))); (refine ad_cons (hs := ?hs) ?a ?_); (case hs => exact star_ns rfl); (case a => (exact (pd_var (pv 2)))); (refine ad_cons (hs := ?hs) ?a ?_); (case hs => exact star_ns rfl); (case a => (exact (pd_var (pv 3)))); exact ad_nil)))))); (focus (exact (sd_ret pd_bl))))); (focus (refine (sd_one ?_); (focus (refine (sd_ret ?_); (focus (refine (pd_and ?_ (pd_one ?_)); (focus (refine (pd_cal c__law_told b__law_told hr (by decide) rfl ?_); (focus ((refine ad_cons (hs := ?hs) ?a ?_); (case hs => exact star_ns rfl); (case a => (exact (pd_var (pv 1)))); (refine ad_cons (hs := ?hs) ?a ?_); (case hs => exact star_ns rfl); (case a => (exact (pd_var (pv 2)))); (refine ad_cons (hs := ?hs) ?a ?_); (case hs => exact star_ns rfl); (case a => (exact pd_non)); exact ad_nil)))); (focus (refine (pd_cal c__law_told b__law_told hr (by decide) rfl ?_); (focus ((refine ad_cons (hs := ?hs) ?a ?_); (case hs => exact star_ns rfl); (case a => (exact (pd_var (pv 1)))); (refine ad_cons (hs := ?hs) ?a ?_); (case hs => exact star_ns rfl); (case a => (refine (pd_revS ?_ ?_); (focus (exact (pd_var (pv 2)))); (focus (exact (pd_neg pd_int))))); (refine ad_cons (hs := ?hs) ?a ?_); (case hs => exact star_ns rfl); (case a => (exact (pd_var (pv 3)))); exact ad_nil))))))))))))))))))))
theorem ok_law {fa : Addr} {dV : Value} {fd : FuncData} (F : Fun2 K "law" "law" s_law dV fa fd) {a__law_row : Addr} {fd__law_row : FuncData} (c__law_row : Cal P w K mg base "_law_row" 3 ["_law_script"] 1 f_law_row a__law_row fd__law_row) (b__law_row : Binds K fd__law_row ["_law_script"] []) {a__law_pattern : Addr} {fd__law_pattern : FuncData} (c__law_pattern : Cal P w K mg base "_law_pattern" 2 ["_law_number_here"] 1 f_law_pattern a__law_pattern fd__law_pattern) (b__law_pattern : Binds K fd__law_pattern ["_law_number_here"] []) {a__law_gap : Addr} {fd__law_gap : FuncData} (c__law_gap : Cal P w K mg base "_law_gap" 1 ["_law_number_here", "_law_row_here"] 2 f_law_gap a__law_gap fd__law_gap) (b__law_gap : Binds K fd__law_gap ["_law_number_here", "_law_row_here"] []) {a__law_number : Addr} {fd__law_number : FuncData} (c__law_number : Cal P w K mg base "_law_number" 2 ["_law_script", "_law_k"] 2 f_law_number a__law_number fd__law_number) (b__law_number : Binds K fd__law_number ["_law_script", "_law_k"] []) {a_places : Addr} {fd_places : FuncData} (c_places : Cal P w K mg base "places" 4 ["row", "pattern", "gap"] 3 f_places a_places fd_places) (b_places : Binds K fd_places ["row", "pattern", "gap"] []) (kb_places : KB K fd_places ["row", "pattern", "gap"] ["gap"] 2 1) {a__law_told : Addr} {fd__law_told : FuncData} (c__law_told : Cal P w K mg base "_law_told" 5 ["_law_row_here", "_law_pattern_here", "_law_most"] 3 f_law_told a__law_told fd__law_told) (b__law_told : Binds K fd__law_told ["_law_row_here", "_law_pattern_here", "_law_most"] []) (n_range : mg "range" = none) (n_len : mg "len" = none) : FnOk P w K mg base CX0 6 fa fd ["_law_script"] (spD K 1 f_law) :=
  F.okn (k := 5) (n := 5) (ar := 1) (k1 := 6) (u := u_law) sc_law rfl rfl rfl fun cdv A outer s H E hr => (by first | (with_reducible exact bd_law c__law_row b__law_row c__law_pattern b__law_pattern c__law_gap b__law_gap c__law_number b__law_number c_places b_places kb_places c__law_told b__law_told n_range n_len hr) | exact bd_law c__law_row b__law_row c__law_pattern b__law_pattern c__law_gap b__law_gap c__law_number b__law_number c_places b_places kb_places c__law_told b__law_told n_range n_len hr)
end
end My
set_option maxRecDepth 100000
set_option maxHeartbeats 1000000
open PySem PyProof.Rows L2 DL
local macro_rules | `(tactic| simp! [$a,*]) => `(tactic| simp (config := {decide := true, implicitDefEqProofs := false}) only [runFn, sSeq, sIf, sSet, sRet, sRetN, sNil, sOwn, sBrk, sCnt, sDrop, sFor, sFrz, sBind, eOp, eC, eV0, eVs, eCall, aCons, aNil, eTup, eL, lLst, lCall, eSl, oNo, oAt, oAtD, bAnd, bCmp, bNot, bT, bOr, eAnd, eOr, eNot, eIf, eIsi, isi_all, eUn, isB, truD, oNeg, oLenT, oLenL, frz0, frzs, iSeq, seqD, callD, callK, aApp, bN, bTup, bCons, bNil, capR, fzOf, List.map_cons, List.map_nil, List.length_cons, List.length_nil, List.length_map, Nat.reduceAdd, Nat.reduceSub, Nat.reduceEqDiff, List.replicate, List.cons_append, List.nil_append, List.append_nil, List.set_cons_zero, List.set_cons_succ, List.set_nil, List.getElem?_cons_zero, List.getElem?_cons_succ, Option.bind_some, Option.bind_none, Option.map_some, Option.map_none, Option.join_some, Option.join_none, oMod_int, oDiv_int, oPlus_int, oSub_int, oTimes_int, oTimes_intL, oEq_int, oNe_int, oEq_bl, oLt_int, oLe_int, oGt_int, oGe_int, oTuple_l, oTuple_t, if_true, if_false, decide_true, decide_false, Bool.false_eq_true, Bool.not_true, Bool.not_false, and_true, true_and, and_self, ite_true, ite_false, Int.reduceSub, Int.reduceMod, Int.reduceAdd, Int.reduceDiv, Int.reducePow, Int.reduceMul, Int.reduceNeg, Int.reduceEq, Int.reduceLT, Int.reduceLE, Int.reduceToNat, oIxL, oIxT, atI_lit, oList_l, oList_t, oPow_int, reduceCtorEq, List.isEmpty_nil, List.isEmpty_cons, List.isEmpty_iff, $a,*])
namespace My
open PySem PyProof.Rows L2 DL
abbrev TI (ns : List Int) : D := .tup (ns.map .int)
abbrev Run := Int × List Int
abbrev runD (r : Run) : D := .tup [.int r.1, TI r.2]
/-! counts -/
theorem inF_int (x : Int) : ∀ b : List Int, inF (.int x) (b.map D.int) = decide (x ∈ b)
  | [] => rfl
  | y :: b => by
    show ((eqF (.int y) (.int x)) || inF (.int x) (b.map D.int)) = _
    rw [inF_int x b]
    show ((y == x) || _) = _
    rw [Bool.eq_iff_iff]
    simp only [Bool.or_eq_true, beq_iff_eq, decide_eq_true_eq, List.mem_cons]
    constructor <;> rintro (h | h)
    · exact .inl h.symm
    · exact .inr h
    · exact .inl h.symm
    · exact .inr h
theorem flat_ints (b : List Int) : (b.map D.int).all flat = true := by
  rw [List.all_map, List.all_eq_true]; intro x _; rfl
theorem oIn_ints (x : Int) (b : List Int) : oIn false (.int x) (TI b) = some (.bl (decide (x ∈ b))) := by
  show (if (flat (.int x) && (b.map D.int).all flat) = true then some (D.bl (if false = true then !inF (.int x) (b.map D.int) else inF (.int x) (b.map D.int))) else none) = _
  rw [flat_ints, inF_int]; rfl
/-! columns -/
def col : List Run → Int → Int
  | [], _ => 0
  | r :: rs, w => (if w ∈ r.2 then 1 else 0) + 2 * col rs w
theorem column_comp (w : Int) : ∀ (rs : List Run) (k : Nat), k + rs.length ≤ 1000 → ∃ L : List Int,
    runComp (bTup 2 (bCons (bN 0) (bCons (bN 1) bNil))) (bCmp (oIn false) (eV 2) (eOp oIx (eV 1) (eC (.int 1)))) (eOp oShl (eC (.int 1)) (eV 0)) [none, none, some (.fz (.int w))] (zipD (rangeD (k : Int) rs.length) (rs.map runD)) = some (L.map D.int) ∧ L.sum = 2 ^ k * col rs w
  | [], k, _ => ⟨[], rfl, by simp [col]⟩
  | r :: rs, k, h => by
    simp only [List.length_cons] at h
    obtain ⟨L, e, hs⟩ := column_comp w rs (k + 1) (by omega)
    rw [show ((k + 1 : Nat) : Int) = (k : Int) + 1 by omega] at e
    have z : zipD (rangeD (k : Int) (r :: rs).length) ((r :: rs).map runD) = .tup [.int (k : Int), runD r] :: zipD (rangeD ((k : Int) + 1) rs.length) (rs.map runD) := by
      rw [List.length_cons, rangeD_succ]; rfl
    have hin := oIn_ints w r.2
    have hsh : oShl (.int 1) (.int (k : Int)) = some (.int (2 ^ k)) := by
      rw [oShl_int 1 (k : Int) (by omega) (by omega) (by decide), Int.toNat_natCast, Int.one_mul]
    rw [z]
    by_cases hb : w ∈ r.2
    · refine ⟨2 ^ k :: L, ?_, ?_⟩
      · simp! [runComp, e, hin, hb, hsh]
      · rw [List.sum_cons, hs, col, if_pos hb, Int.mul_add, ← Int.mul_assoc, Int.pow_succ]; simp
    · refine ⟨L, ?_, ?_⟩
      · simp! [runComp, e, hin, hb]
      · rw [hs, col, if_neg hb, Int.zero_add, ← Int.mul_assoc, Int.pow_succ]
theorem column_eq (rs : List Run) (w : Int) (h : rs.length ≤ 1000) : f_column [.tup (rs.map runD), .int w] = some (.int (col rs w)) := by
  obtain ⟨L, e, hs⟩ := column_comp w rs 0 (by omega)
  have a := oSum_ints L
  rw [hs, show (2 : Int) ^ 0 * col rs w = col rs w by simp] at a
  have hl : (zipD (rangeD 0 rs.length) (rs.map runD)).length ≤ lim := by
    unfold zipD
    rw [List.length_zipWith, rangeD_len, List.length_map]; show _ ≤ 1000000; omega
  rw [show ((0 : Nat) : Int) = 0 from rfl] at e
  (refine run_ok ?_; simp! [u_column, lComp, iEnum, enumD, hl, e, a])
/-! marks -/
def mkN : List Nat → Nat
  | [] => 0
  | x :: l => 2 ^ x + mkN l
theorem mkN_div : ∀ (l : List Nat) (a : Nat), (∀ x ∈ l, a ≤ x) → ∃ q, mkN l = 2 ^ a * q
  | [], a, _ => ⟨0, by simp [mkN]⟩
  | x :: l, a, h => by
    obtain ⟨q, e⟩ := mkN_div l a fun y hy => h y (List.mem_cons_of_mem _ hy)
    have hx := h x List.mem_cons_self
    refine ⟨2 ^ (x - a) + q, ?_⟩
    rw [mkN, e, Nat.mul_add, ← Nat.pow_add, Nat.add_sub_cancel' hx]
theorem mkN_bit : ∀ (l : List Nat), l.Pairwise (· < ·) → ∀ i, (mkN l).testBit i = decide (i ∈ l)
  | [], _, i => by simp [mkN]
  | x :: l, .cons h1 h2, i => by
    obtain ⟨q, e⟩ := mkN_div l (x + 1) fun y hy => h1 y hy
    have ih := mkN_bit l h2 i
    have hlt : 2 ^ x < 2 ^ (x + 1) := Nat.pow_lt_pow_right (by omega) (by omega)
    have hp : 0 < 2 ^ (x + 1) := Nat.pow_pos (by omega)
    rw [mkN, e, Nat.add_comm, Nat.testBit_two_pow_mul_add _ hlt]
    have e0 : (2 ^ (x + 1) * q + 0).testBit i = if i < x + 1 then (0 : Nat).testBit i else q.testBit (i - (x + 1)) := Nat.testBit_two_pow_mul_add _ hp _
    rw [Nat.add_zero, ← e, ih] at e0
    by_cases c : i < x + 1
    · rw [if_pos c, Nat.testBit_two_pow]
      rw [if_pos c, Nat.zero_testBit] at e0
      have : i ∉ l := by simpa using e0
      rw [Bool.eq_iff_iff]
      simp only [decide_eq_true_eq, List.mem_cons, this, or_false]
      exact eq_comm
    · rw [if_neg c]
      rw [if_neg c] at e0
      rw [← e0, Bool.eq_iff_iff]
      simp only [decide_eq_true_eq, List.mem_cons]
      constructor
      · exact .inr
      · rintro (h | h)
        · omega
        · exact h
theorem mkN_and (b s : List Nat) (hb : b.Pairwise (· < ·)) (hs : s.Pairwise (· < ·)) : mkN b &&& mkN s = mkN s ↔ ∀ x ∈ s, x ∈ b := by
  constructor
  · intro h x hx
    have := congrArg (fun n => n.testBit x) h
    simp only [Nat.testBit_and, mkN_bit b hb, mkN_bit s hs, decide_eq_true hx, Bool.and_true] at this
    simpa using this
  · intro h
    apply Nat.eq_of_testBit_eq
    intro i
    rw [Nat.testBit_and, mkN_bit b hb, mkN_bit s hs]
    by_cases c : i ∈ s
    · simp [c, h i c]
    · simp [c]
theorem and_nat (a b : Nat) : Builtin.bitAnd (a : Int) (b : Int) = ((a &&& b : Nat) : Int) := by
  unfold Builtin.bitAnd
  rw [decide_eq_true (by omega : (0 : Int) ≤ (a : Int)), decide_eq_true (by omega : (0 : Int) ≤ (b : Int))]
  simp
/-! rows: places as marks -/
abbrev rowD (rs : List Run) : D := .tup (rs.map runD)
theorem mkN_app : ∀ a b : List Nat, mkN (a ++ b) = mkN a + mkN b
  | [], b => by simp [mkN]
  | x :: a, b => by rw [List.cons_append, mkN, mkN, mkN_app a b, Nat.add_assoc]
def bm (n : Nat) (P : Nat → Bool) : Nat := mkN ((List.range n).filter P)
theorem bm_bit (n : Nat) (P : Nat → Bool) (i : Nat) : (bm n P).testBit i = (decide (i < n) && P i) := by
  unfold bm
  rw [mkN_bit _ (List.Pairwise.filter _ List.pairwise_lt_range), Bool.eq_iff_iff]
  simp only [decide_eq_true_eq, List.mem_filter, List.mem_range, Bool.and_eq_true]
theorem bm_ext {n m : Nat} {P : Nat → Bool} (h : ∀ i, m.testBit i = (decide (i < n) && P i)) : m = bm n P := Nat.eq_of_testBit_eq fun i => by rw [h, bm_bit]
theorem bm_and (n : Nat) (P Q : Nat → Bool) : bm n P &&& bm n Q = bm n fun i => P i && Q i := bm_ext fun i => by
  rw [Nat.testBit_and, bm_bit, bm_bit]
  cases decide (i < n) <;> simp
theorem bm_all (n : Nat) : 2 ^ n - 1 = bm n fun _ => true := bm_ext fun i => by rw [Nat.testBit_two_pow_sub_one, Bool.and_true]
theorem bm_succ (n : Nat) (P : Nat → Bool) : bm (n + 1) P = if P n then bm n P + 2 ^ n else bm n P := by
  unfold bm
  rw [List.range_succ, List.filter_append, mkN_app]
  cases h : P n <;> simp [List.filter_cons, h, mkN]
theorem bm_congr {n : Nat} {P Q : Nat → Bool} (h : ∀ i, i < n → P i = Q i) : bm n P = bm n Q := by
  unfold bm
  rw [List.filter_congr fun i hi => h i (List.mem_range.mp hi)]
theorem bm_odd {n k : Nat} {P : Nat → Bool} (h : k < n) : ((bm n P : Nat) : Int) / 2 ^ k % 2 = 1 ↔ P k = true := by
  have := bm_bit n P k
  rw [Nat.testBit_eq_decide_div_mod_eq, decide_eq_true h, Bool.true_and] at this
  have e : ((bm n P : Nat) : Int) / 2 ^ k % 2 = ((bm n P / 2 ^ k % 2 : Nat) : Int) := by push_cast; rfl
  rw [e, ← this, decide_eq_true_eq]
  omega
def bk (rs : List Run) (p : Nat) : List Int := ((rs[p]?).map (·.2)).getD []
def tm (rs : List Run) (p : Nat) : Int := ((rs[p]?).map (·.1)).getD 0
theorem col_bm (w : Int) : ∀ rs : List Run, ∃ m : Nat, col rs w = (m : Int) ∧ ∀ i, m.testBit i = (decide (i < rs.length) && decide (w ∈ bk rs i))
  | [] => ⟨0, rfl, fun i => by simp⟩
  | r :: rs => by
    obtain ⟨m, h1, h2⟩ := col_bm w rs
    refine ⟨(if w ∈ r.2 then 1 else 0) + 2 * m, ?_, fun i => ?_⟩
    · rw [col, h1]; split <;> simp
    · cases i with
      | zero =>
        rw [Nat.testBit_zero]
        have e : bk (r :: rs) 0 = r.2 := rfl
        rw [e]
        by_cases hw : w ∈ r.2
        · simp [hw]
        · simp [hw]
      | succ i =>
        rw [Nat.testBit_succ]
        have e : ((if w ∈ r.2 then 1 else 0) + 2 * m) / 2 = m := by split <;> omega
        have e2 : bk (r :: rs) (i + 1) = bk rs i := rfl
        rw [e, h2, e2]
        simp
theorem column_bm (rs : List Run) (w : Int) (h : rs.length ≤ 1000) : f_column [rowD rs, .int w] = some (.int ((bm rs.length fun p => decide (w ∈ bk rs p) : Nat) : Int)) := by
  obtain ⟨m, h1, h2⟩ := col_bm w rs
  rw [column_eq rs w h, h1, bm_ext h2]
theorem every_place_eq (ds : List D) (h : ds.length ≤ 1000) : f_every_place [.tup ds] = some (.int ((bm ds.length fun _ => true : Nat) : Int)) := by
  have e := oShl_int 1 (ds.length : Int) (by omega) (by omega) (by decide)
  rw [Int.one_mul, Int.toNat_natCast] at e
  have hp : 1 ≤ 2 ^ ds.length := Nat.two_pow_pos _
  have e2 : (2 : Int) ^ ds.length - 1 = ((bm ds.length fun _ => true : Nat) : Int) := by rw [← bm_all, Int.natCast_sub hp]; push_cast; rfl
  (refine run_ok ?_; simp! [u_every_place, e, e2])
theorem oBand_bm (n : Nat) (P Q : Nat → Bool) : oBand (.int ((bm n P : Nat) : Int)) (.int ((bm n Q : Nat) : Int)) = some (.int ((bm n fun i => P i && Q i : Nat) : Int)) := by
  show some (D.int (Builtin.bitAnd _ _)) = _
  rw [and_nat, bm_and]
def fits (rs : List Run) (s : List Int) (p : Nat) : Bool := s.all fun w => decide (w ∈ bk rs p)
theorem row_at {rs : List Run} {p : Nat} (h : p < rs.length) : atI (rs.map runD) (p : Int) = some (.tup [.int (tm rs p), TI (bk rs p)]) := by
  rw [atI_nat', List.getElem?_map, tm, bk, List.getElem?_eq_getElem h]
  rfl
theorem places_above_loop (rs : List Run) (hl : rs.length ≤ 1000) (x1 : Option B) : ∀ (s : List Int) (P : Nat → Bool) (b3 : Option B), ∃ b3', runFor (bN 3) lb_places_above_1 (s.map D.int) [some (.fz (rowD rs)), x1, some (.fz (.int ((bm rs.length P : Nat) : Int))), b3] = some (.nx, [some (.fz (rowD rs)), x1, some (.fz (.int ((bm rs.length fun p => P p && s.all fun w => decide (w ∈ bk rs p) : Nat) : Int))), b3'])
  | [], P, b3 => ⟨b3, by simp only [List.map_nil, runFor, List.all_nil, Bool.and_true]⟩
  | w :: s, P, b3 => by
    obtain ⟨b3', ih⟩ := places_above_loop rs hl x1 s (fun p => P p && decide (w ∈ bk rs p)) (some (.fz (.int w)))
    refine ⟨b3', ?_⟩
    have c := column_bm rs w hl
    have o := oBand_bm rs.length P fun p => decide (w ∈ bk rs p)
    rw [List.map_cons, runFor_nx (b := bN 3) rfl (show lb_places_above_1 [some (.fz (rowD rs)), x1, some (.fz (.int ((bm rs.length P : Nat) : Int))), some (.fz (.int w))] = some (.nx, [some (.fz (rowD rs)), x1, some (.fz (.int ((bm rs.length fun p => P p && decide (w ∈ bk rs p) : Nat) : Int))), some (.fz (.int w))]) by simp! [lb_places_above_1, c, o]), ih]
    simp only [List.all_cons, Bool.and_assoc]
theorem places_above_eq (rs : List Run) (hl : rs.length ≤ 1000) (s : List Int) : f_places_above [rowD rs, TI s] = some (.int ((bm rs.length (fits rs s) : Nat) : Int)) := by
  have e := every_place_eq (rs.map runD) (by rw [List.length_map]; exact hl)
  rw [List.length_map] at e
  obtain ⟨b, h⟩ := places_above_loop rs hl (some (.fz (TI s))) s (fun _ => true) none
  simp only [Bool.true_and] at h
  (refine run_ok ?_; simp! [u_places_above, e, sFor, h])
  rfl
/-! what is open -/
def lastB (E : Nat → Bool) : Nat → Option Nat
  | 0 => none
  | k + 1 => if E k then some k else lastB E k
def gapD : Option Int → D
  | none => .non
  | some g => .int g
def okG : Option Int → Int → Bool
  | none, _ => true
  | some g, d => decide (d ≤ g)
def okN (gap : Option Int) (t : Int) : Option Int → Bool
  | none => false
  | some u => okG gap (t - u)
def opn (rs : List Run) (gap : Option Int) (E : Nat → Bool) (p : Nat) : Bool := okN gap (tm rs p) ((lastB E p).map (tm rs))
theorem is_nn : oIs true .non .non = some (.bl false) := rfl
theorem is_ni (i : Int) : oIs true (.int i) .non = some (.bl true) := rfl
theorem is_pn : oIs false .non .non = some (.bl true) := rfl
theorem is_pi (i : Int) : oIs false (.int i) .non = some (.bl false) := rfl
theorem open_body (x0 : Option B) (m f : Int) (gap N : Option Int) (k : Nat) (r : Run) (hk : k ≤ 1000) :
    lb_open_places_1 [x0, some (.fz (.int m)), some (.fz (gapD gap)), some (.fz (.int f)), some (.fz (gapD N)), some (.fz (.int (k : Int))), some (.fz (runD r))] =
      some (.nx, [x0, some (.fz (.int m)), some (.fz (gapD gap)), some (.fz (.int (if okN gap r.1 N then f + 2 ^ k else f))), some (.fz (gapD (if m / 2 ^ k % 2 = 1 then some r.1 else N))), some (.fz (.int (k : Int))), some (.fz (runD r))]) := by
  have e := oShl_int 1 (k : Int) (by omega) (by omega) (by decide)
  rw [Int.one_mul, Int.toNat_natCast] at e
  have e2 := oShr_int m (k : Int) (by omega)
  rw [Int.toNat_natCast] at e2
  have e3 : ∀ a b : Int, oAdd (.int a) (.int b) = some (.int (a + b)) := fun _ _ => rfl
  by_cases hm : m / 2 ^ k % 2 = 1
  · cases N with
    | none => simp! [lb_open_places_1, gapD, okN, is_nn, e2, hm]
    | some t =>
      cases gap with
      | none => simp! [lb_open_places_1, gapD, okN, okG, is_ni, is_pn, e, e2, e3, hm]
      | some g =>
        by_cases h : r.1 - t ≤ g
        · simp! [lb_open_places_1, gapD, okN, okG, is_ni, is_pi, e, e2, e3, hm, h]
        · simp! [lb_open_places_1, gapD, okN, okG, is_ni, is_pi, e, e2, e3, hm, h]
  · cases N with
    | none => simp! [lb_open_places_1, gapD, okN, is_nn, e2, hm]
    | some t =>
      cases gap with
      | none => simp! [lb_open_places_1, gapD, okN, okG, is_ni, is_pn, e, e2, e3, hm]
      | some g =>
        by_cases h : r.1 - t ≤ g
        · simp! [lb_open_places_1, gapD, okN, okG, is_ni, is_pi, e, e2, e3, hm, h]
        · simp! [lb_open_places_1, gapD, okN, okG, is_ni, is_pi, e, e2, e3, hm, h]
theorem open_loop (rs : List Run) (hl : rs.length ≤ 1000) (gap : Option Int) (E : Nat → Bool) : ∀ (suf pre : List Run), rs = pre ++ suf → ∀ b5 b6 : Option B, ∃ N b5' b6',
    runFor (bTup 2 (bCons (bN 5) (bCons (bN 6) bNil))) lb_open_places_1 (zipD (rangeD (pre.length : Int) suf.length) (suf.map runD)) [some (.fz (rowD rs)), some (.fz (.int ((bm rs.length E : Nat) : Int))), some (.fz (gapD gap)), some (.fz (.int ((bm pre.length (opn rs gap E) : Nat) : Int))), some (.fz (gapD ((lastB E pre.length).map (tm rs)))), b5, b6] =
      some (.nx, [some (.fz (rowD rs)), some (.fz (.int ((bm rs.length E : Nat) : Int))), some (.fz (gapD gap)), some (.fz (.int ((bm rs.length (opn rs gap E) : Nat) : Int))), N, b5', b6'])
  | [], pre, h, b5, b6 => ⟨some (.fz (gapD ((lastB E pre.length).map (tm rs)))), b5, b6, by
      rw [List.append_nil] at h
      subst h
      rfl⟩
  | r :: suf, pre, h, b5, b6 => by
    have hk : pre.length < rs.length := by rw [h, List.length_append, List.length_cons]; omega
    have hg : rs[pre.length]? = some r := by rw [h, List.getElem?_append_right (Nat.le_refl _), Nat.sub_self]; rfl
    have ht : tm rs pre.length = r.1 := by unfold tm; rw [hg]; rfl
    obtain ⟨N, b5', b6', ih⟩ := open_loop rs hl gap E suf (pre ++ [r]) (by rw [h, List.append_assoc]; rfl) (some (.fz (.int (pre.length : Int)))) (some (.fz (runD r)))
    refine ⟨N, b5', b6', ?_⟩
    have z : zipD (rangeD (pre.length : Int) (r :: suf).length) ((r :: suf).map runD) = .tup [.int (pre.length : Int), runD r] :: zipD (rangeD ((pre.length : Int) + 1) suf.length) (suf.map runD) := by
      rw [List.length_cons, rangeD_succ]; rfl
    rw [z, runFor_nx (ρ1 := [some (.fz (rowD rs)), some (.fz (.int ((bm rs.length E : Nat) : Int))), some (.fz (gapD gap)), some (.fz (.int ((bm pre.length (opn rs gap E) : Nat) : Int))), some (.fz (gapD ((lastB E pre.length).map (tm rs)))), some (.fz (.int (pre.length : Int))), some (.fz (runD r))]) rfl (open_body _ _ _ _ _ _ _ (by omega)), ← ih]
    have l1 : (pre ++ [r]).length = pre.length + 1 := by simp
    rw [l1, bm_succ]
    have c1 : ((if okN gap r.1 ((lastB E pre.length).map (tm rs)) = true then ((bm pre.length (opn rs gap E) : Nat) : Int) + 2 ^ pre.length else ((bm pre.length (opn rs gap E) : Nat) : Int))) = (((if opn rs gap E pre.length = true then bm pre.length (opn rs gap E) + 2 ^ pre.length else bm pre.length (opn rs gap E) : Nat)) : Int) := by
      rw [show opn rs gap E pre.length = okN gap r.1 ((lastB E pre.length).map (tm rs)) by unfold opn; rw [ht]]
      split <;> push_cast <;> rfl
    have c2 : (if ((bm rs.length E : Nat) : Int) / 2 ^ pre.length % 2 = 1 then some r.1 else (lastB E pre.length).map (tm rs)) = (lastB E (pre.length + 1)).map (tm rs) := by
      rw [lastB]
      by_cases he : E pre.length = true
      · rw [if_pos ((bm_odd hk).mpr he), if_pos he, Option.map_some, ht]
      · rw [if_neg (fun q => he ((bm_odd hk).mp q)), if_neg he]
    rw [c1, c2, show ((pre.length + 1 : Nat) : Int) = (pre.length : Int) + 1 by omega]
def prevD (n : Nat) : Option (Nat → Bool) → D
  | none => .non
  | some E => .int ((bm n E : Nat) : Int)
def opo (rs : List Run) (gap : Option Int) : Option (Nat → Bool) → Nat → Bool
  | none => fun _ => true
  | some E => opn rs gap E
theorem open_places_eq (rs : List Run) (hl : rs.length ≤ 1000) (gap : Option Int) (prev : Option (Nat → Bool)) : f_open_places [rowD rs, prevD rs.length prev, gapD gap] = some (.int ((bm rs.length (opo rs gap prev) : Nat) : Int)) := by
  cases prev with
  | none =>
    have e := every_place_eq (rs.map runD) (by rw [List.length_map]; exact hl)
    rw [List.length_map] at e
    (refine run_ok ?_; simp! [u_open_places, prevD, is_pn, e])
    rfl
  | some E =>
    obtain ⟨N, b5, b6, h⟩ := open_loop rs hl gap E rs [] rfl none none
    have h0 : ((bm ([] : List Run).length (opn rs gap E) : Nat) : Int) = 0 := rfl
    have h1 : gapD ((lastB E ([] : List Run).length).map (tm rs)) = .non := rfl
    rw [h0, h1, show (([] : List Run).length : Int) = 0 from rfl] at h
    (refine run_ok ?_; simp! [u_open_places, prevD, is_pi, sFor, iEnum, enumD, h])
    rfl
/-! the ends -/
def nxt (rs : List Run) (gap : Option Int) (prev : Option (Nat → Bool)) (s : List Int) (p : Nat) : Bool := opo rs gap prev p && fits rs s p
def emk (rs : List Run) (gap : Option Int) : Option (Nat → Bool) → List (List Int) → List (Nat → Bool)
  | _, [] => []
  | prev, s :: ss => nxt rs gap prev s :: emk rs gap (some (nxt rs gap prev s)) ss
theorem end_loop (rs : List Run) (hl : rs.length ≤ 1000) (gap : Option Int) (x1 : Option B) : ∀ (pat : List (List Int)) (prev : Option (Nat → Bool)) (acc : List D) (b5 : Option B), acc.length + pat.length ≤ 1000 → ∃ b4' b5',
    runFor (bN 5) lb_end_marks_1 (pat.map TI) [some (.fz (rowD rs)), x1, some (.fz (gapD gap)), some (.ow acc), some (.fz (prevD rs.length prev)), b5] =
      some (.nx, [some (.fz (rowD rs)), x1, some (.fz (gapD gap)), some (.ow (acc ++ (emk rs gap prev pat).map fun E => .int ((bm rs.length E : Nat) : Int))), b4', b5'])
  | [], prev, acc, b5, _ => ⟨some (.fz (prevD rs.length prev)), b5, by simp only [List.map_nil, runFor, emk, List.append_nil]⟩
  | s :: pat, prev, acc, b5, hc => by
    simp only [List.length_cons] at hc
    obtain ⟨b4', b5', ih⟩ := end_loop rs hl gap x1 pat (some (nxt rs gap prev s)) (acc ++ [.int ((bm rs.length (nxt rs gap prev s) : Nat) : Int)]) (some (.fz (TI s))) (by simp only [List.length_append, List.length_cons, List.length_nil]; omega)
    refine ⟨b4', b5', ?_⟩
    have c1 := open_places_eq rs hl gap prev
    have c2 := places_above_eq rs hl s
    have o := oBand_bm rs.length (opo rs gap prev) (fits rs s)
    have ha : acc.length < lim := by show _ < 1000000; omega
    rw [List.map_cons, runFor_nx (b := bN 5) rfl (show lb_end_marks_1 [some (.fz (rowD rs)), x1, some (.fz (gapD gap)), some (.ow acc), some (.fz (prevD rs.length prev)), some (.fz (TI s))] = some (.nx, [some (.fz (rowD rs)), x1, some (.fz (gapD gap)), some (.ow (acc ++ [.int ((bm rs.length (nxt rs gap prev s) : Nat) : Int)])), some (.fz (prevD rs.length (some (nxt rs gap prev s)))), some (.fz (TI s))]) by simp! [lb_end_marks_1, c1, c2, o, sApp, owAt0, owAts, ha]; rfl), ih]
    simp only [emk, List.map_cons, List.append_assoc, List.singleton_append]
theorem end_marks_eq (rs : List Run) (hl : rs.length ≤ 1000) (gap : Option Int) (pat : List (List Int)) (hp : pat.length ≤ 1000) : f_end_marks [rowD rs, .tup (pat.map TI), gapD gap] = some (.lst ((emk rs gap none pat).map fun E => .int ((bm rs.length E : Nat) : Int))) := by
  obtain ⟨b4, b5, h⟩ := end_loop rs hl gap (some (.fz (.tup (pat.map TI)))) pat none [] none (by simp only [List.length_nil]; omega)
  rw [show prevD rs.length none = .non from rfl] at h
  (refine run_ok ?_; simp! [u_end_marks, sFor, h])
theorem oIn_not (x : Int) (b : List Int) : oIn true (.int x) (TI b) = some (.bl (!decide (x ∈ b))) := by
  show (if (flat (.int x) && (b.map D.int).all flat) = true then some (D.bl (if true = true then !inF (.int x) (b.map D.int) else inF (.int x) (b.map D.int))) else none) = _
  rw [flat_ints, inF_int]; rfl
theorem depL_ints : ∀ ns : List Int, depL (ns.map D.int) = 0
  | [] => rfl
  | n :: ns => by simp only [List.map_cons, depL, depD, depL_ints ns]; rfl
theorem eq_nil (ns : List Int) : oEq (.lst (ns.map .int)) (.lst []) = some (.bl ns.isEmpty) := by
  cases ns with
  | nil => rfl
  | cons x s =>
    show (none : Option D).or (if (okEL ((x :: s).map D.int) [] && decide (depL ((x :: s).map D.int) ≤ 60)) = true then some (D.bl (eqL ((x :: s).map D.int) [])) else none) = _
    rw [depL_ints]; rfl
theorem ne_nil (ns : List Int) : oNe3 (.lst (ns.map .int)) (.lst []) = some (.bl (!ns.isEmpty)) := by
  cases ns with
  | nil => rfl
  | cons x s =>
    show (none : Option D).or (if (okEL ((x :: s).map D.int) [] && decide (depL ((x :: s).map D.int) ≤ 60)) = true then some (D.bl (!eqL ((x :: s).map D.int) [])) else none) = _
    rw [depL_ints]; rfl
theorem compI {c : FT} {ρ : Rho} (q : Int → Bool) : ∀ (l : List Int), (∀ x ∈ l, c (some (.fz (.int x)) :: ρ) = some (q x)) → runComp (bN 0) c (eV 0) (none :: ρ) (l.map D.int) = some ((l.filter q).map D.int)
  | [], _ => rfl
  | x :: l, h => by
    have ih := compI q l fun y hy => h y (List.mem_cons_of_mem _ hy)
    have h1 := h x List.mem_cons_self
    have b1 : bN 0 (D.int x) (none :: ρ) = some (some (.fz (.int x)) :: ρ) := rfl
    have v1 : eV 0 (some (.fz (.int x)) :: ρ) = some (.int x) := rfl
    simp only [List.map_cons, runComp, b1, h1, Option.bind_some, List.filter_cons]
    cases q x with
    | true => simp only [if_true, v1, Option.bind_some, ih, Option.map_some, List.map_cons]
    | false => simp only [Bool.false_eq_true, if_false, ih]
theorem fits_nil (s b : List Int) : (s.filter fun w => !decide (w ∈ b)).isEmpty = s.all fun w => decide (w ∈ b) := by
  rw [Bool.eq_iff_iff, List.isEmpty_iff, List.filter_eq_nil_iff, List.all_eq_true]
  constructor
  · intro h x hx
    have := h x hx
    simpa using this
  · intro h x hx
    simpa using h x hx
def NF (b : Option B) : Prop := ∀ r, frz 0 (b :: r) = b :: r
theorem nf_none : NF none := fun _ => rfl
theorem nf_fz (d : D) : NF (some (.fz d)) := fun _ => rfl
theorem frzF (d : D) (r : Rho) : frz 0 (some (.fz d) :: r) = some (.fz d) :: r := rfl
theorem fits_comp (rs : List Run) (s : List Int) (p : Nat) (hp : p < rs.length) : runComp (bN 0) (bCmp (oIn true) (eV 0) (eOp oIx (eOp oIx (eV 1) (eV 2)) (eC (.int 1)))) (eV 0) [none, some (.fz (rowD rs)), some (.fz (.int (p : Int)))] (s.map D.int) = some ((s.filter fun w => !decide (w ∈ bk rs p)).map D.int) :=
  compI _ s fun x _ => by
    have a := row_at hp
    have o := oIn_not x (bk rs p)
    simp! [a, o]
/-! a mark's set again, the ends -/
theorem runComp_on {α : Type} {b : FB} {e : FE} {ρ : Rho} (f g : α → D) : ∀ (as : List α), (∀ a ∈ as, ∃ ρ1, b (f a) ρ = some ρ1 ∧ e ρ1 = some (g a)) → runComp b cTrue e ρ (as.map f) = some (as.map g)
  | [], _ => rfl
  | a :: as, h => by
    obtain ⟨ρ1, e1, e2⟩ := h a List.mem_cons_self
    have ih := runComp_on f g as fun x hx => h x (List.mem_cons_of_mem _ hx)
    simp only [List.map_cons, runComp, e1, e2, Option.bind_some, cTrue, if_true, ih, Option.map_some]
def pl (n : Nat) (P : Nat → Bool) : List Int := ((List.range n).filter P).map fun i : Nat => (i : Int)
theorem emk_len (rs : List Run) (gap : Option Int) : ∀ (pat : List (List Int)) (prev : Option (Nat → Bool)), (emk rs gap prev pat).length = pat.length
  | [], _ => rfl
  | s :: pat, prev => by rw [emk, List.length_cons, List.length_cons, emk_len rs gap pat]
/-! near and any -/
theorem lastB_none {E : Nat → Bool} : ∀ {p : Nat}, lastB E p = none → ∀ q, q < p → E q = false
  | 0, _, q, h => by omega
  | p + 1, h, q, hq => by
    rw [lastB] at h
    split at h
    · cases h
    · rename_i he
      by_cases c : q = p
      · rw [c]; simpa using he
      · exact lastB_none h q (by omega)
theorem lastB_some {E : Nat → Bool} : ∀ {p q : Nat}, lastB E p = some q → q < p ∧ E q = true ∧ ∀ r, r < p → E r = true → r ≤ q
  | 0, q, h => by cases h
  | p + 1, q, h => by
    rw [lastB] at h
    split at h
    · rename_i he
      cases h
      exact ⟨by omega, he, fun r hr _ => by omega⟩
    · rename_i he
      obtain ⟨h1, h2, h3⟩ := lastB_some h
      refine ⟨by omega, h2, fun r hr hE => ?_⟩
      by_cases c : r = p
      · rw [c] at hE; exact absurd hE he
      · exact h3 r (by omega) hE
theorem okG_mono {gap : Option Int} {a b : Int} (h : a ≤ b) (hb : okG gap b = true) : okG gap a = true := by
  cases gap with
  | none => rfl
  | some g => exact decide_eq_true (by have := of_decide_eq_true (show decide (b ≤ g) = true from hb); omega)
theorem tm_mono {rs : List Run} (hr : rs.Pairwise (fun a b => a.1 < b.1)) {p q : Nat} (h : p < q) (hq : q < rs.length) : tm rs p < tm rs q := by
  have := List.pairwise_iff_getElem.mp hr p q (by omega) hq h
  unfold tm
  rw [List.getElem?_eq_getElem hq, List.getElem?_eq_getElem (show p < rs.length by omega)]
  exact this
def anyB (rs : List Run) (gap : Option Int) (E : Nat → Bool) (p : Nat) : Bool := (List.range rs.length).any fun q => E q && (decide (q < p) && okG gap (tm rs p - tm rs q))
theorem opn_any {rs : List Run} (hr : rs.Pairwise (fun a b => a.1 < b.1)) (gap : Option Int) (E : Nat → Bool) {p : Nat} (hp : p < rs.length) : opn rs gap E p = anyB rs gap E p := by
  unfold opn anyB
  cases h : lastB E p with
  | none =>
    symm
    show _ = false
    rw [List.any_eq_false]
    intro q _
    by_cases c : q < p
    · rw [lastB_none h q c]; simp
    · simp [c]
  | some q =>
    obtain ⟨h1, h2, h3⟩ := lastB_some h
    show okG gap (tm rs p - tm rs q) = _
    cases hg : okG gap (tm rs p - tm rs q) with
    | true =>
      symm
      rw [List.any_eq_true]
      exact ⟨q, List.mem_range.mpr (by omega), by rw [h2, hg, decide_eq_true h1]; rfl⟩
    | false =>
      symm
      rw [List.any_eq_false]
      intro r _ hc
      simp only [Bool.and_eq_true, decide_eq_true_eq] at hc
      obtain ⟨a1, a2, a3⟩ := hc
      have hle := h3 r a2 a1
      have : tm rs r ≤ tm rs q := by
        by_cases e : r = q
        · rw [e]; exact Int.le_refl _
        · exact Int.le_of_lt (tm_mono hr (by omega) (by omega))
      rw [okG_mono (by omega) a3] at hg
      cases hg
theorem ahead_comp (l : List Int) (p : Nat) : runComp (bN 0) (bCmp oLt' (eV 0) (eV 1)) (eV 0) [none, some (.fz (.int (p : Int)))] (l.map D.int) = some ((l.filter fun x => decide (x < (p : Int))).map D.int) :=
  compI _ l fun x _ => by simp! [if_true]
theorem gap_comp (rs : List Run) (g : Int) (l : List Int) (p : Nat) (hp : p < rs.length) (hl : ∀ x ∈ l, 0 ≤ x ∧ x < (rs.length : Int)) : runComp (bN 0) (bCmp oLe (eOp oSub (eOp oIx (eOp oIx (eV 2) (eV 3)) (eC (.int 0))) (eOp oIx (eOp oIx (eV 2) (eV 0)) (eC (.int 0)))) (eV 1)) (eV 0) [none, some (.fz (.int g)), some (.fz (rowD rs)), some (.fz (.int (p : Int)))] (l.map D.int) = some ((l.filter fun x => okG (some g) (tm rs p - tm rs x.toNat)).map D.int) :=
  compI _ l fun x hx => by
    obtain ⟨h0, h1⟩ := hl x hx
    have a := row_at hp
    have b := row_at (rs := rs) (p := x.toNat) (by omega)
    rw [show ((x.toNat : Nat) : Int) = x by omega] at b
    simp! [a, b, okG]
def nearL (rs : List Run) (gap : Option Int) (E : Nat → Bool) (p : Nat) : List Int := ((pl rs.length E).filter fun x => decide (x < (p : Int))).filter fun x => okG gap (tm rs p - tm rs x.toNat)
theorem pl_mem {n : Nat} {E : Nat → Bool} {x : Int} : x ∈ pl n E ↔ ∃ q : Nat, q < n ∧ E q = true ∧ x = (q : Int) := by
  unfold pl
  simp only [List.mem_map, List.mem_filter, List.mem_range]
  constructor
  · rintro ⟨q, ⟨h1, h2⟩, rfl⟩; exact ⟨q, h1, h2, rfl⟩
  · rintro ⟨q, h1, h2, rfl⟩; exact ⟨q, ⟨h1, h2⟩, rfl⟩
theorem near_any (rs : List Run) (gap : Option Int) (E : Nat → Bool) (p : Nat) : (!(nearL rs gap E p).isEmpty) = anyB rs gap E p := by
  rw [Bool.eq_iff_iff]
  unfold anyB
  rw [List.any_eq_true]
  constructor
  · intro h
    have hne : nearL rs gap E p ≠ [] := fun z => by rw [z] at h; cases h
    obtain ⟨x, hx⟩ := List.exists_mem_of_ne_nil _ hne
    unfold nearL at hx
    simp only [List.mem_filter, decide_eq_true_eq] at hx
    obtain ⟨⟨h1, h2⟩, h3⟩ := hx
    obtain ⟨q, q1, q2, rfl⟩ := pl_mem.mp h1
    rw [Int.toNat_natCast] at h3
    exact ⟨q, List.mem_range.mpr q1, by rw [q2, h3, decide_eq_true (show q < p by omega)]; rfl⟩
  · rintro ⟨q, h1, h2⟩
    simp only [Bool.and_eq_true, decide_eq_true_eq] at h2
    have hx : (q : Int) ∈ nearL rs gap E p := by
      unfold nearL
      simp only [List.mem_filter, decide_eq_true_eq]
      exact ⟨⟨pl_mem.mpr ⟨q, List.mem_range.mp h1, h2.1, rfl⟩, by omega⟩, by rw [Int.toNat_natCast]; exact h2.2.2⟩
    cases hc : nearL rs gap E p with
    | nil => rw [hc] at hx; cases hx
    | cons _ _ => rfl
/-! the places of a pattern -/
theorem bits_last {E : Nat → Bool} {p q : Nat} (h : lastB E p = some q) : Builtin.Int.intBits ((bm p E : Nat) : Int) = q + 1 := by
  obtain ⟨h1, h2, h3⟩ := lastB_some h
  have hb : (bm p E).testBit q = true := by rw [bm_bit, decide_eq_true h1, h2]; rfl
  have hge := Nat.ge_two_pow_of_testBit hb
  have hlt : bm p E < 2 ^ (q + 1) := Nat.lt_pow_two_of_testBit _ fun i hi => by
    rw [bm_bit]
    by_cases c : i < p
    · cases he : E i with
      | true => have := h3 i c he; omega
      | false => rw [Bool.and_false]
    · rw [decide_eq_false c, Bool.false_and]
  have hpos : 0 < 2 ^ q := Nat.two_pow_pos q
  have h0 : bm p E ≠ 0 := by omega
  have hne : ((bm p E : Nat) : Int) ≠ 0 := by omega
  unfold Builtin.Int.intBits
  have hb' : (((bm p E : Nat) : Int) == 0) = false := by simpa using hne
  rw [hb', if_neg (by decide), Int.natAbs_natCast, (Nat.log2_eq_iff h0).mpr ⟨hge, hlt⟩]
theorem bm_below {n p : Nat} (hp : p ≤ n) (E : Nat → Bool) : bm n E &&& bm p (fun _ => true) = bm p E := bm_ext fun i => by
  rw [Nat.testBit_and, bm_bit, bm_bit]
  by_cases c : i < p
  · have : i < n := by omega
    simp [c, this]
  · simp [c]
def walkB : Nat → List (Nat → Bool) → Option (List Nat)
  | _, [] => some []
  | p, E :: bs => match lastB E p with
    | none => none
    | some q => (walkB q bs).map fun qs => q :: qs
theorem walk_cons {p : Nat} {E : Nat → Bool} {bs : List (Nat → Bool)} {qs : List Nat} (h : walkB p (E :: bs) = some qs) : ∃ q r, lastB E p = some q ∧ walkB q bs = some r ∧ qs = q :: r := by
  rw [walkB] at h
  split at h
  · cases h
  · rename_i q hq
    obtain ⟨r, h1, h2⟩ := Option.map_eq_some_iff.mp h
    exact ⟨q, r, hq, h1, h2.symm⟩
theorem places_loop (n : Nat) (hn : n ≤ 1000) (x0 x1 x2 x3 : Option B) : ∀ (bs : List (Nat → Bool)) (p : Nat) (qs : List Nat) (acc : List D) (b6 : Option B), p ≤ n → walkB p bs = some qs → acc.length + bs.length ≤ 1000 → ∃ b5' b6',
    runFor (bN 6) lb_places_1 (bs.map fun E => .int ((bm n E : Nat) : Int)) [x0, x1, x2, x3, some (.ow acc), some (.fz (.int (p : Int))), b6] = some (.nx, [x0, x1, x2, x3, some (.ow (acc ++ qs.map fun q : Nat => .int (q : Int))), b5', b6'])
  | [], p, qs, acc, b6, _, h, _ => by
    cases h
    exact ⟨some (.fz (.int (p : Int))), b6, by simp only [List.map_nil, runFor, List.append_nil]⟩
  | E :: bs, p, qs, acc, b6, hp, h, hc => by
    obtain ⟨q, r, h1, h2, rfl⟩ := walk_cons h
    rw [List.length_cons] at hc
    have hq := (lastB_some h1).1
    obtain ⟨b5', b6', ih⟩ := places_loop n hn x0 x1 x2 x3 bs q r (acc ++ [.int (q : Int)]) (some (.fz (.int ((bm n E : Nat) : Int)))) (by omega) h2 (by simp only [List.length_append, List.length_cons, List.length_nil]; omega)
    refine ⟨b5', b6', ?_⟩
    have e := oShl_int 1 (p : Int) (by omega) (by omega) (by decide)
    rw [Int.one_mul, Int.toNat_natCast] at e
    have hpw : 1 ≤ 2 ^ p := Nat.two_pow_pos _
    have e2 : (2 : Int) ^ p - 1 = ((bm p fun _ => true : Nat) : Int) := by rw [← bm_all, Int.natCast_sub hpw]; push_cast; rfl
    have o : oBand (.int ((bm n E : Nat) : Int)) (.int ((bm p fun _ => true : Nat) : Int)) = some (.int ((bm p E : Nat) : Int)) := by
      show some (D.int (Builtin.bitAnd _ _)) = _
      rw [and_nat, bm_below hp]
    have e3 : oBits (.int ((bm p E : Nat) : Int)) = some (.int ((q : Int) + 1)) := by
      show some (D.int (Builtin.Int.intBits ((bm p E : Nat) : Int) : Nat)) = _
      rw [bits_last h1]
      rfl
    have ha : acc.length < lim := by show _ < 1000000; omega
    have body : lb_places_1 [x0, x1, x2, x3, some (.ow acc), some (.fz (.int (p : Int))), some (.fz (.int ((bm n E : Nat) : Int)))] = some (.nx, [x0, x1, x2, x3, some (.ow (acc ++ [.int (q : Int)])), some (.fz (.int (q : Int))), some (.fz (.int ((bm n E : Nat) : Int)))]) := by
      simp! [lb_places_1, e, e2, o, e3, Int.add_sub_cancel, sApp, owAt0, owAts, ha]
    have e0 : bN 6 (.int ((bm n E : Nat) : Int)) [x0, x1, x2, x3, some (.ow acc), some (.fz (.int (p : Int))), b6] = some [x0, x1, x2, x3, some (.ow acc), some (.fz (.int (p : Int))), some (.fz (.int ((bm n E : Nat) : Int)))] := rfl
    rw [List.map_cons, runFor_nx e0 body, ih]
    simp
def Lk (rs : List Run) (gap : Option Int) (E' E : Nat → Bool) : Prop := ∀ q, E q = true → ∃ r, lastB E' q = some r ∧ okG gap (tm rs q - tm rs r) = true
def RC (rs : List Run) (gap : Option Int) : List (Nat → Bool) → Prop
  | [] => True
  | [_] => True
  | E :: E' :: r => Lk rs gap E' E ∧ RC rs gap (E' :: r)
theorem emk_rc (rs : List Run) (gap : Option Int) : ∀ (pat : List (List Int)) (acc : List (Nat → Bool)), RC rs gap acc → RC rs gap ((emk rs gap acc.head? pat).reverse ++ acc)
  | [], acc, h => h
  | s :: pat, acc, h => by
    rw [emk, List.reverse_cons, List.append_assoc]
    refine emk_rc rs gap pat (nxt rs gap acc.head? s :: acc) ?_
    cases acc with
    | nil => trivial
    | cons E' r =>
      refine ⟨fun q hq => ?_, h⟩
      have h1 : (opn rs gap E' q && fits rs s q) = true := hq
      rw [Bool.and_eq_true] at h1
      have h2 : okN gap (tm rs q) ((lastB E' q).map (tm rs)) = true := h1.1
      cases hl : lastB E' q with
      | none => rw [hl] at h2; cases h2
      | some r => rw [hl] at h2; exact ⟨r, rfl, h2⟩
theorem walk_ex {rs : List Run} {gap : Option Int} : ∀ (bs : List (Nat → Bool)) (E : Nat → Bool) (p q : Nat), RC rs gap (E :: bs) → lastB E p = some q → ∃ qs, walkB p (E :: bs) = some qs
  | [], E, p, q, _, h => ⟨[q], by rw [walkB, h]; rfl⟩
  | E' :: bs, E, p, q, hr, h => by
    obtain ⟨r, h1, _⟩ := hr.1 q (lastB_some h).2.1
    obtain ⟨qs, h2⟩ := walk_ex bs E' q r hr.2 h1
    exact ⟨q :: qs, by rw [walkB, h]; show (walkB q (E' :: bs)).map _ = _; rw [h2]; rfl⟩
theorem walk_all {n : Nat} : ∀ {bs : List (Nat → Bool)} {p : Nat} {qs : List Nat}, walkB p bs = some qs → p ≤ n → ∀ E ∈ bs, ∃ q, q < n ∧ E q = true
  | [], _, _, _, _, E, hE => by cases hE
  | E' :: bs, p, qs, h, hp, E, hE => by
    obtain ⟨q, r, h1, h2, rfl⟩ := walk_cons h
    obtain ⟨q1, q2, _⟩ := lastB_some h1
    rcases List.mem_cons.mp hE with rfl | hE
    · exact ⟨q, by omega, q2⟩
    · exact walk_all h2 (by omega) E hE
theorem walk_len : ∀ {bs : List (Nat → Bool)} {p : Nat} {qs : List Nat}, walkB p bs = some qs → qs.length = bs.length
  | [], _, _, h => by cases h; rfl
  | E' :: bs, p, qs, h => by
    obtain ⟨q, r, h1, h2, rfl⟩ := walk_cons h
    rw [List.length_cons, List.length_cons, walk_len h2]
theorem oIn_intsL (x : Int) (b : List Int) : oIn false (.int x) (.lst (b.map D.int)) = some (.bl (decide (x ∈ b))) := by
  show (if (flat (.int x) && (b.map D.int).all flat) = true then some (D.bl (if false = true then !inF (.int x) (b.map D.int) else inF (.int x) (b.map D.int))) else none) = _
  rw [flat_ints, inF_int]; rfl
theorem bm_zero {n : Nat} {E : Nat → Bool} : ((bm n E : Nat) : Int) = 0 ↔ ∀ q, q < n → E q = false := by
  constructor
  · intro h q hq
    have h' : bm n E = 0 := by omega
    have b := bm_bit n E q
    rw [h', Nat.zero_testBit, decide_eq_true hq, Bool.true_and] at b
    exact b.symm
  · intro h
    have : bm n E = 0 := Nat.eq_of_testBit_eq fun i => by
      rw [bm_bit, Nat.zero_testBit]
      by_cases c : i < n
      · rw [h i c, Bool.and_false]
      · rw [decide_eq_false c, Bool.false_and]
    omega
def chS (rs : List Run) (gap : Option Int) : Option (Nat → Bool) → List (List Int) → Option (Nat → Bool)
  | prev, [] => prev
  | prev, s :: ss => chS rs gap (some (nxt rs gap prev s)) ss
theorem emk_last (rs : List Run) (gap : Option Int) : ∀ (pat : List (List Int)) (prev : Option (Nat → Bool)), pat ≠ [] → ∃ E r, (emk rs gap prev pat).reverse = E :: r ∧ chS rs gap prev pat = some E
  | [], _, h => absurd rfl h
  | [s], prev, _ => ⟨_, _, rfl, rfl⟩
  | s :: t :: pat, prev, _ => by
    obtain ⟨E, r, h1, h2⟩ := emk_last rs gap (t :: pat) (some (nxt rs gap prev s)) (by simp)
    exact ⟨E, r ++ [nxt rs gap prev s], by rw [emk, List.reverse_cons, h1]; rfl, h2⟩
theorem places_none (rs : List Run) (hl : rs.length ≤ 1000) (gap : Option Int) (pat : List (List Int)) (hp : pat.length ≤ 1000) {E : Nat → Bool} (hE : chS rs gap none pat = some E) (hpat : pat ≠ []) (h : lastB E rs.length = none) : f_places [rowD rs, .tup (pat.map TI), gapD gap] = some .non := by
  have m := end_marks_eq rs hl gap pat hp
  obtain ⟨E1, r, h1, h2⟩ := emk_last rs gap pat none hpat
  rw [hE] at h2
  cases h2
  have hm : E ∈ emk rs gap none pat := List.mem_reverse.mp (by rw [h1]; exact List.mem_cons_self)
  have i := oIn_intsL 0 ((emk rs gap none pat).map fun E => ((bm rs.length E : Nat) : Int))
  rw [decide_eq_true (List.mem_map.mpr ⟨E, hm, bm_zero.mpr fun q hq => lastB_none h q hq⟩), List.map_map] at i
  have i' : oIn false (.int 0) (.lst ((emk rs gap none pat).map fun E => .int ((bm rs.length E : Nat) : Int))) = some (.bl true) := i
  (refine run_ok ?_; simp! [u_places, m, i'])
theorem places_some (rs : List Run) (hl : rs.length ≤ 1000) (gap : Option Int) (pat : List (List Int)) (hp : pat.length ≤ 1000) {E : Nat → Bool} (hE : chS rs gap none pat = some E) (hpat : pat ≠ []) {q : Nat} (h : lastB E rs.length = some q) : ∃ qs, walkB rs.length (emk rs gap none pat).reverse = some qs ∧ f_places [rowD rs, .tup (pat.map TI), gapD gap] = some (TI (qs.reverse.map fun q : Nat => (q : Int))) := by
  have m := end_marks_eq rs hl gap pat hp
  obtain ⟨E1, r, h1, h2⟩ := emk_last rs gap pat none hpat
  rw [hE] at h2
  cases h2
  have hr := emk_rc rs gap pat [] trivial
  rw [List.append_nil, show ([] : List (Nat → Bool)).head? = none from rfl, h1] at hr
  obtain ⟨qs, hw⟩ := walk_ex r E rs.length q hr h
  rw [← h1] at hw
  have i := oIn_intsL 0 ((emk rs gap none pat).map fun E => ((bm rs.length E : Nat) : Int))
  rw [decide_eq_false (fun z => by
    obtain ⟨E2, hm, hz⟩ := List.mem_map.mp z
    obtain ⟨q2, hq2, he⟩ := walk_all hw (Nat.le_refl _) E2 (List.mem_reverse.mpr hm)
    rw [bm_zero.mp hz q2 hq2] at he
    cases he), List.map_map] at i
  have i' : oIn false (.int 0) (.lst ((emk rs gap none pat).map fun E => .int ((bm rs.length E : Nat) : Int))) = some (.bl false) := i
  have el := emk_len rs gap pat none
  obtain ⟨b5, b6, lp⟩ := places_loop rs.length hl (some (.fz (rowD rs))) (some (.fz (.tup (pat.map TI)))) (some (.fz (gapD gap))) (some (.fz (.lst ((emk rs gap none pat).map fun E => .int ((bm rs.length E : Nat) : Int))))) (emk rs gap none pat).reverse rs.length qs [] none (Nat.le_refl _) hw (by rw [List.length_nil, List.length_reverse]; omega)
  rw [List.nil_append, List.map_reverse] at lp
  refine ⟨qs, hw, ?_⟩
  have t0 : ([] : List D).length ≤ lim := by decide
  have e : TI (qs.reverse.map fun q : Nat => (q : Int)) = .tup (qs.map fun q : Nat => D.int (q : Int)).reverse := by
    rw [← List.map_reverse]; simp
  rw [e]
  (refine run_ok ?_; simp! [u_places, m, i', t0, sFor, iRev, lp, eRevT])
theorem last_pl (n : Nat) (E : Nat → Bool) : (lastB E n).isSome = !(pl n E).isEmpty := by
  cases h : lastB E n with
  | none =>
    have : pl n E = [] := by
      unfold pl
      rw [List.map_eq_nil_iff, List.filter_eq_nil_iff]
      intro i hi he
      rw [lastB_none h i (List.mem_range.mp hi)] at he
      cases he
    rw [this]; rfl
  | some q =>
    obtain ⟨h1, h2, _⟩ := lastB_some h
    have hq : (q : Int) ∈ pl n E := pl_mem.mpr ⟨q, h1, h2, rfl⟩
    cases hc : pl n E with
    | nil => rw [hc] at hq; cases hq
    | cons _ _ => rfl
/-! the law's own numbers and sets -/
theorem law_cell_ok (ns : List Int) (k : Int) (h0 : 0 ≤ k) : ∃ c, f_law_cell [.lst (ns.map .int), .int k] = some (.int c) := by
  by_cases h : k < (ns.length : Int)
  · have hi : atI (ns.map D.int) k = some (.int (ns[k.toNat]'(by omega))) := by rw [atI_pos h0, List.getElem?_map, List.getElem?_eq_getElem (by omega)]; rfl
    exact ⟨ns[k.toNat]'(by omega), by (refine run_ok ?_; simp! [u_law_cell, h, hi])⟩
  · exact ⟨0, by (refine run_ok ?_; simp! [u_law_cell, h])⟩
theorem law_mixed_ok (c k : Int) (h1 : -1000000 < k) (h2 : k < 1000000) : ∃ m, f_law_mixed [.int c, .int k] = some (.int m) ∧ 0 ≤ m := by
  have t1 : oTimes (.int k) (.int k) = some (.int (k * k)) := oTimes_int _ _ ⟨by omega, by omega⟩
  have t2 : ∀ x : Int, oTimes (.int (x % 2147483647)) (.int (x % 2147483647)) = some (.int ((x % 2147483647) * (x % 2147483647))) := fun x =>
    oTimes_int _ _ ⟨by have := Int.emod_nonneg x (show (2147483647 : Int) ≠ 0 by decide); omega, by have := Int.emod_lt_of_pos x (show (0 : Int) < 2147483647 by decide); omega⟩
  have t3 : ∀ x y : Int, oTimes (.int x) (.int (y % 2147483629)) = some (.int (x * (y % 2147483629))) := fun x y =>
    oTimes_int _ _ ⟨by have := Int.emod_nonneg y (show (2147483629 : Int) ≠ 0 by decide); omega, by have := Int.emod_lt_of_pos y (show (0 : Int) < 2147483629 by decide); omega⟩
  simp! [f_law_mixed, u_law_mixed, t1, t2, t3]
  exact ⟨_, rfl, Int.emod_nonneg _ (by decide)⟩
theorem law_number_ok (ns : List Int) (k : Int) (h0 : 0 ≤ k) (h1 : k ≤ 1000) : ∃ m, f_law_number [.lst (ns.map .int), .int k] = some (.int m) ∧ 0 ≤ m := by
  obtain ⟨c0, hc0⟩ := law_cell_ok ns 0 (by decide)
  by_cases h : c0 % 2 = 0
  · obtain ⟨c, hc⟩ := law_cell_ok ns k h0
    simp! [f_law_number, u_law_number, hc0, h, hc]
    exact ⟨_, rfl, Int.emod_nonneg _ (by decide)⟩
  · have hx : oMax [.int 1, .int (ns.length : Int)] = some (.int (if (ns.length : Int) > 1 then (ns.length : Int) else 1)) := rfl
    have hp : (0 : Int) < (if (ns.length : Int) > 1 then (ns.length : Int) else 1) := by split <;> omega
    generalize (if (ns.length : Int) > 1 then (ns.length : Int) else 1) = M at hx hp
    obtain ⟨c, hc⟩ := law_cell_ok ns (k % M) (Int.emod_nonneg _ (by omega))
    obtain ⟨a, ha, a0⟩ := law_mixed_ok c (k + 5) (by omega) (by omega)
    obtain ⟨b, hb, b0⟩ := law_mixed_ok c (k + 90) (by omega) (by omega)
    obtain ⟨d, hd, d0⟩ := law_mixed_ok k 9 (by omega) (by omega)
    simp! [f_law_number, u_law_number, hc0, h, hx, hp, hc, ha, hb, hd]
    exact ⟨_, rfl, by omega⟩
def bitsFrom : Nat → Int → Int → List Int
  | 0, _, _ => []
  | n + 1, m, k => if m % 2 = 1 then k :: bitsFrom n (m / 2) (k + 1) else bitsFrom n (m / 2) (k + 1)
theorem law_set_loop (x1 : Option B) : ∀ (n : Nat) (m k : Int) (acc : List D) (b : Option B), acc.length + n ≤ 100 → ∃ b' m', 
    runFor (bN 3) lb_law_set_1 (rangeD k n) [some (.fz (.int m)), x1, some (.ow acc), b] = some (.nx, [some (.fz (.int m')), x1, some (.ow (acc ++ (bitsFrom n m k).map .int)), b'])
  | 0, m, k, acc, b, _ => ⟨b, m, by simp [rangeD, runFor, bitsFrom]⟩
  | n + 1, m, k, acc, b, h => by
    have ha : acc.length < lim := by show _ < 1000000; omega
    rw [rangeD_succ]
    by_cases hm : m % 2 = 1
    · obtain ⟨b', m', ih⟩ := law_set_loop x1 n (m / 2) (k + 1) (acc ++ [.int k]) (some (.fz (.int k))) (by simp; omega)
      refine ⟨b', m', ?_⟩
      rw [runFor_nx (b := bN 3) rfl (show lb_law_set_1 [some (.fz (.int m)), x1, some (.ow acc), some (.fz (.int k))] = some (.nx, [some (.fz (.int (m / 2))), x1, some (.ow (acc ++ [.int k])), some (.fz (.int k))]) by simp! [lb_law_set_1, hm, sApp, owAt0, owAts, ha]), ih, bitsFrom, if_pos hm]
      simp
    · obtain ⟨b', m', ih⟩ := law_set_loop x1 n (m / 2) (k + 1) acc (some (.fz (.int k))) (by omega)
      refine ⟨b', m', ?_⟩
      rw [runFor_nx (b := bN 3) rfl (show lb_law_set_1 [some (.fz (.int m)), x1, some (.ow acc), some (.fz (.int k))] = some (.nx, [some (.fz (.int (m / 2))), x1, some (.ow acc), some (.fz (.int k))]) by simp! [lb_law_set_1, hm]), ih, bitsFrom, if_neg hm]
theorem law_set_eq (m : Int) (w : Nat) (hw : w ≤ 12) : f_law_set [.int m, .int (w : Int)] = some (TI (bitsFrom w m 0)) := by
  obtain ⟨b', m', h⟩ := law_set_loop (some (.fz (.int (w : Int)))) w m 0 [] none (by simp; omega)
  rw [List.nil_append] at h
  have r : iR1 (aCons (eV 1) aNil) [some (.fz (.int m)), some (.fz (.int (w : Int))), some (.ow []), none] = some (rangeD 0 w) := iR1_int _ _ (w : Int) rfl (by omega) (by omega)
  (refine run_ok ?_; simp! [u_law_set, sFor, r, h])
/-! the law's own row, pattern and gap -/
theorem law_many_moments_ok (ns : List Int) : ∃ n : Nat, f_law_many_moments [.lst (ns.map .int)] = some (.int (n : Int)) ∧ n ≤ 59 := by
  obtain ⟨c0, hc0⟩ := law_cell_ok ns 0 (by decide)
  by_cases h : c0 % 2 = 0
  · have h1 : oMin [.int ((ns.length : Int) - 3), .int 59] = some (.int (if 59 < (ns.length : Int) - 3 then 59 else (ns.length : Int) - 3)) := rfl
    generalize hM : (if 59 < (ns.length : Int) - 3 then 59 else (ns.length : Int) - 3) = M at h1
    have h2 : oMax [.int 0, .int M] = some (.int ((M.toNat : Nat) : Int)) := by
      show some (D.int (if M > 0 then M else 0)) = _
      congr 2
      split <;> omega
    refine ⟨M.toNat, by (refine run_ok ?_; simp! [u_law_many_moments, hc0, h, h1, h2]), ?_⟩
    split at hM <;> omega
  · obtain ⟨a, ha, a0⟩ := law_mixed_ok c0 3 (by decide) (by decide)
    have hb := Int.emod_nonneg a (show (15 : Int) ≠ 0 by decide)
    have hb2 := Int.emod_lt_of_pos a (show (0 : Int) < 15 by decide)
    refine ⟨(4 + a % 15).toNat, ?_, by omega⟩
    rw [show (((4 + a % 15).toNat : Nat) : Int) = 4 + a % 15 by omega]
    (refine run_ok ?_; simp! [u_law_many_moments, hc0, h, ha])
theorem law_row_loop (ns : List Int) (step : Int) (hs : 0 < step) : ∀ (n : Nat) (k : Nat) (acc : List Run) (time : Int) (b4 b5 : Option B), k + n ≤ 100 → acc.length + n ≤ 100 → acc.Pairwise (fun a b => a.1 < b.1) → (∀ r ∈ acc, r.1 < time) → ∃ (rs : List Run) (b2' b4' b5' : Option B),
    runFor (bN 4) lb_law_row_1 (rangeD (k : Int) n) [some (.fz (.lst (ns.map .int))), some (.fz (.int step)), some (.fz (.int time)), some (.ow (acc.map runD)), b4, b5] = some (.nx, [some (.fz (.lst (ns.map .int))), some (.fz (.int step)), b2', some (.ow (rs.map runD)), b4', b5']) ∧ rs.length = acc.length + n ∧ rs.Pairwise (fun a b => a.1 < b.1)
  | 0, k, acc, time, b4, b5, _, _, hp, _ => ⟨acc, _, b4, b5, rfl, rfl, hp⟩
  | n + 1, k, acc, time, b4, b5, hk, ha, hp, ht => by
    obtain ⟨m, hm, m0⟩ := law_number_ok ns (3 + (k : Int)) (by omega) (by omega)
    have hse := law_set_eq (m % 16) 4 (by decide)
    rw [show ((4 : Nat) : Int) = 4 from rfl] at hse
    have hd := Int.emod_nonneg (m / 16) (show step ≠ 0 by omega)
    obtain ⟨rs, b2', b4', b5', ih, l, p⟩ := law_row_loop ns step hs n (k + 1) (acc ++ [(time, bitsFrom 4 (m % 16) 0)]) (time + 1 + m / 16 % step) (some (.fz (.int (k : Int)))) (some (.fz (.int m))) (by omega) (by simp only [List.length_append, List.length_cons, List.length_nil]; omega)
      (List.pairwise_append.mpr ⟨hp, List.pairwise_singleton _ _, fun a h b hb => by rw [List.mem_singleton.mp hb]; exact ht a h⟩)
      (fun r hr => by
        rcases List.mem_append.mp hr with h | h
        · have := ht r h; omega
        · rw [List.mem_singleton.mp h]; show time < _; omega)
    refine ⟨rs, b2', b4', b5', ?_, by rw [l]; simp only [List.length_append, List.length_cons, List.length_nil]; omega, p⟩
    have hl : (acc.map runD).length < lim := by rw [List.length_map]; show _ < 1000000; omega
    have ht2 : ([D.int time, TI (bitsFrom 4 (m % 16) 0)]).length ≤ lim := by show 2 ≤ 1000000; decide
    rw [rangeD_succ, runFor_nx (b := bN 4) rfl (show lb_law_row_1 [some (.fz (.lst (ns.map .int))), some (.fz (.int step)), some (.fz (.int time)), some (.ow (acc.map runD)), some (.fz (.int (k : Int))), b5] = some (.nx, [some (.fz (.lst (ns.map .int))), some (.fz (.int step)), some (.fz (.int (time + 1 + m / 16 % step))), some (.ow ((acc ++ [(time, bitsFrom 4 (m % 16) 0)]).map runD)), some (.fz (.int (k : Int))), some (.fz (.int m))]) by
      rw [List.map_append]
      rw [List.length_map] at hl
      simp! [lb_law_row_1, hm, hse, sApp, owAt0, owAts, hl, hs]), ← ih]
    rw [show ((k + 1 : Nat) : Int) = (k : Int) + 1 by omega]
theorem law_row_ok (ns : List Int) : ∃ rs : List Run, f_law_row [.lst (ns.map .int)] = some (rowD rs) ∧ rs.length ≤ 59 ∧ rs.Pairwise (fun a b => a.1 < b.1) := by
  obtain ⟨c0, hc0⟩ := law_cell_ok ns 0 (by decide)
  obtain ⟨n, hn, hn2⟩ := law_many_moments_ok ns
  have hst : ∃ step : Int, 0 < step ∧ atI [D.int 5, D.int 1000000000] (c0 / 2 % 2) = some (.int step) := by
    have h1 := Int.emod_nonneg (c0 / 2) (show (2 : Int) ≠ 0 by decide)
    have h2 := Int.emod_lt_of_pos (c0 / 2) (show (0 : Int) < 2 by decide)
    have : c0 / 2 % 2 = 0 ∨ c0 / 2 % 2 = 1 := by omega
    rcases this with e | e <;> rw [e]
    · exact ⟨5, by decide, rfl⟩
    · exact ⟨1000000000, by decide, rfl⟩
  obtain ⟨step, hs, he⟩ := hst
  obtain ⟨rs, b2, b4, b5, h, l, p⟩ := law_row_loop ns step hs n 0 [] (c0 / 4 % 10) none none (by omega) (by simp only [List.length_nil]; omega) .nil (fun _ h => by cases h)
  have r : iR1 (aCons (eCall (callD 1 [] f_law_many_moments) (aCons (eV 0) aNil)) aNil) [some (.fz (.lst (ns.map .int))), some (.fz (.int step)), some (.fz (.int (c0 / 4 % 10))), some (.ow []), none, none] = some (rangeD 0 n) := iR1_int _ _ (n : Int) (by simp! [hn]) (by omega) (by omega)
  rw [show ((0 : Nat) : Int) = 0 from rfl, List.map_nil] at h
  refine ⟨rs, ?_, by rw [l]; simp only [List.length_nil]; omega, p⟩
  (refine run_ok ?_; simp! [u_law_row, hc0, he, sFor, r, h])
theorem bits4_len : ∀ (n : Nat) (m k : Int), (bitsFrom n m k).length ≤ n
  | 0, _, _ => Nat.le_refl _
  | n + 1, m, k => by
    unfold bitsFrom
    split
    · exact Nat.succ_le_succ (bits4_len n _ _)
    · exact Nat.le_succ_of_le (bits4_len n _ _)
theorem law_pattern_loop (x0 : Option B) : ∀ (n : Nat) (k rest : Int) (acc : List (List Int)) (b3 : Option B), acc.length + n ≤ 100 → (∀ s ∈ acc, s.length ≤ 4) → ∃ (pat : List (List Int)) (b2' b3' : Option B),
    runFor (bN 3) lb_law_pattern_1 (rangeD k n) [x0, some (.ow (acc.map TI)), some (.fz (.int rest)), b3] = some (.nx, [x0, some (.ow (pat.map TI)), b2', b3']) ∧ pat.length = acc.length + n ∧ ∀ s ∈ pat, s.length ≤ 4
  | 0, k, rest, acc, b3, _, hs => ⟨acc, _, b3, rfl, rfl, hs⟩
  | n + 1, k, rest, acc, b3, ha, hs => by
    have hse := law_set_eq (1 + rest % 15) 4 (by decide)
    rw [show ((4 : Nat) : Int) = 4 from rfl] at hse
    obtain ⟨pat, b2', b3', ih, l, hs'⟩ := law_pattern_loop x0 n (k + 1) (rest / 15) (acc ++ [bitsFrom 4 (1 + rest % 15) 0]) (some (.fz (.int k))) (by simp only [List.length_append, List.length_cons, List.length_nil]; omega) (fun s h => by
      rcases List.mem_append.mp h with h | h
      · exact hs s h
      · rw [List.mem_singleton.mp h]; exact bits4_len _ _ _)
    refine ⟨pat, b2', b3', ?_, by rw [l]; simp only [List.length_append, List.length_cons, List.length_nil]; omega, hs'⟩
    have hl : acc.length < lim := by show _ < 1000000; omega
    rw [rangeD_succ, runFor_nx (b := bN 3) rfl (show lb_law_pattern_1 [x0, some (.ow (acc.map TI)), some (.fz (.int rest)), some (.fz (.int k))] = some (.nx, [x0, some (.ow ((acc ++ [bitsFrom 4 (1 + rest % 15) 0]).map TI)), some (.fz (.int (rest / 15))), some (.fz (.int k))]) by
      rw [List.map_append]
      simp! [lb_law_pattern_1, hse, sApp, owAt0, owAts, hl]), ← ih]
theorem law_pattern_ok (m : Int) : ∃ pat : List (List Int), f_law_pattern [.int m] = some (.tup (pat.map TI)) ∧ pat.length ≤ 6 ∧ 1 ≤ pat.length ∧ ∀ s ∈ pat, s.length ≤ 4 := by
  have h1 := Int.emod_nonneg m (show (6 : Int) ≠ 0 by decide)
  have h2 := Int.emod_lt_of_pos m (show (0 : Int) < 6 by decide)
  obtain ⟨pat, b2, b3, h, l, hs⟩ := law_pattern_loop (some (.fz (.int m))) (1 + m % 6).toNat 0 (m / 6) [] none (by simp only [List.length_nil]; omega) (fun _ h => by cases h)
  rw [List.map_nil] at h
  rw [List.length_nil] at l
  have r : iR1 (aCons (eOp oPlus (eC (.int 1)) (eOp oMod (eV 0) (eC (.int 6)))) aNil) [some (.fz (.int m)), some (.ow []), some (.fz (.int (m / 6))), none] = some (rangeD 0 (1 + m % 6).toNat) := iR1_int _ _ (1 + m % 6) (by simp! [if_true]) (by omega) (by omega)
  refine ⟨pat, ?_, by omega, by omega, hs⟩
  (refine run_ok ?_; simp! [u_law_pattern, sFor, r, h])
theorem law_gap_ok (m : Int) (rs : List Run) : ∃ gap : Option Int, f_law_gap [.int m, rowD rs] = some (gapD gap) := by
  have h1 := Int.emod_nonneg m (show (8 : Int) ≠ 0 by decide)
  have h2 := Int.emod_lt_of_pos m (show (0 : Int) < 8 by decide)
  by_cases c1 : m % 8 < 2
  · exact ⟨none, by (refine run_ok ?_; simp! [u_law_gap, c1]); rfl⟩
  by_cases c2 : m % 8 < 4
  · have hst : ∃ step : Int, 0 < step ∧ atI [D.int 10, D.int 10000000000] (m % 2) = some (.int step) := by
      have h1 := Int.emod_nonneg m (show (2 : Int) ≠ 0 by decide)
      have h2 := Int.emod_lt_of_pos m (show (0 : Int) < 2 by decide)
      have : m % 2 = 0 ∨ m % 2 = 1 := by omega
      rcases this with e | e <;> rw [e]
      · exact ⟨10, by decide, rfl⟩
      · exact ⟨10000000000, by decide, rfl⟩
    obtain ⟨step, hs, he⟩ := hst
    exact ⟨some (m / 8 % step), by (refine run_ok ?_; simp! [u_law_gap, c1, c2, he, hs]); rfl⟩
  by_cases c3 : (rs.length : Int) < 2
  · exact ⟨some (m / 8 % 3), by (refine run_ok ?_; simp! [u_law_gap, c1, c2, c3]); rfl⟩
  have hn : 0 < rs.length := by omega
  obtain ⟨i, hi, ei⟩ := mod_nat (x := m / 8) hn
  obtain ⟨j, hj, ej⟩ := mod_nat (x := m / 8 / 64) hn
  have ai := row_at hi
  have aj := row_at hj
  have hab : ∀ x : Int, oAbs [.int x] = some (.int (if x < 0 then -x else x)) := fun _ => rfl
  have hmx : ∀ x : Int, oMax [.int 0, .int x] = some (.int (if x > 0 then x else 0)) := fun _ => rfl
  have hp : (0 : Int) < (rs.length : Int) := by omega
  by_cases c4 : m % 8 = 7
  · exact ⟨some _, by (refine run_ok ?_; simp! [u_law_gap, c1, c2, c3, ei, ej, ai, aj, hab, c4, oInt_t, hmx]); rfl⟩
  · exact ⟨some _, by (refine run_ok ?_; simp! [u_law_gap, c1, c2, c3, ei, ej, ai, aj, hab, c4, oInt_f, hmx]); rfl⟩
end My

set_option maxRecDepth 100000
set_option maxHeartbeats 1000000
open PySem PyProof.Rows L2 DL
namespace My
open PySem PyProof.Rows L2 DL
/-! the law's own look at a row -/
def befD (n : Nat) : Option (Nat → Bool) → D
  | none => .non
  | some E => .lst ((pl n E).map .int)
theorem is_pl (ds : List D) : oIs false (.lst ds) .non = some (.bl false) := rfl
theorem is_nl (ds : List D) : oIs true (.lst ds) .non = some (.bl true) := rfl
theorem ne_nil4 (ns : List Int) : oNe4 (.lst (ns.map .int)) (.lst []) = some (.bl (!ns.isEmpty)) := by
  show (oNe3 (.lst (ns.map .int)) (.lst [])).or (oNeN (.lst (ns.map .int)) (.lst [])) = _
  rw [ne_nil]
  rfl
theorem ne_non4 : oNe4 .non (.lst []) = some (.bl true) := rfl
theorem near_eq {rs : List Run} (gap : Option Int) {q p : Nat} (hq : q < rs.length) (hp : p < rs.length) : f_law_near [rowD rs, .int (q : Int), .int (p : Int), gapD gap] = some (.bl (decide (q < p) && okG gap (tm rs p - tm rs q))) := by
  have a := row_at hq
  have b := row_at hp
  by_cases h : q < p
  · have h' : (q : Int) < (p : Int) := by omega
    rw [decide_eq_true h, Bool.true_and]
    cases gap with
    | none => (refine run_ok ?_; simp! [u_law_near, h', gapD, is_pn]); rfl
    | some g => (refine run_ok ?_; simp! [u_law_near, h', gapD, is_pi, a, b]); rfl
  · have h' : ¬ (q : Int) < (p : Int) := by omega
    rw [decide_eq_false h, Bool.false_and]
    (refine run_ok ?_; simp! [u_law_near, h'])
theorem nearL_one (rs : List Run) (gap : Option Int) (E : Nat → Bool) (p : Nat) : nearL rs gap E p = (pl rs.length E).filter fun x => decide (x.toNat < p) && okG gap (tm rs p - tm rs x.toNat) := by
  unfold nearL
  rw [List.filter_filter]
  apply List.filter_congr
  intro x hx
  obtain ⟨q, q1, q2, rfl⟩ := pl_mem.mp hx
  rw [Bool.and_comm, Int.toNat_natCast]
  congr 1
  exact decide_eq_decide.mpr (by omega)
theorem near_comp (rs : List Run) (gap : Option Int) (E : Nat → Bool) (p : Nat) (hp : p < rs.length) : runComp (bN 0) (bT (eCall (callD 4 [] f_law_near) (aCons (eV 1) (aCons (eV 0) (aCons (eV 2) (aCons (eV 3) aNil)))))) (eV 0) [none, some (.fz (rowD rs)), some (.fz (.int (p : Int))), some (.fz (gapD gap))] ((pl rs.length E).map D.int) = some ((nearL rs gap E p).map D.int) := by
  rw [nearL_one]
  refine compI _ _ fun x hx => ?_
  obtain ⟨q, q1, q2, rfl⟩ := pl_mem.mp hx
  have e := near_eq (rs := rs) gap q1 hp
  rw [Int.toNat_natCast]
  simp! [e]
theorem comes_body {rs : List Run} (hr : rs.Pairwise (fun a b => a.1 < b.1)) (hl : rs.length ≤ 400) (gap : Option Int) (prev : Option (Nat → Bool)) (s : List Int) (hs : s.length ≤ 1000) (here : List Int) (hh : here.length ≤ 1000) (p : Nat) (hp : p < rs.length) (x1 b7 : Option B) (h7 : NF b7) : ∃ b7', NF b7' ∧
    lb_law_comes_1 [some (.fz (rowD rs)), x1, some (.fz (gapD gap)), some (.fz (befD rs.length prev)), some (.fz (TI s)), some (.ow (here.map .int)), some (.fz (.int (p : Int))), b7] = some (.nx, [some (.fz (rowD rs)), x1, some (.fz (gapD gap)), some (.fz (befD rs.length prev)), some (.fz (TI s)), some (.ow ((if nxt rs gap prev s p then here ++ [(p : Int)] else here).map .int)), some (.fz (.int (p : Int))), b7']) := by
  have c1 := fits_comp rs s p hp
  have l1 : s.length ≤ lim := by show _ ≤ 1000000; omega
  have e1 := eq_nil (s.filter fun w => !decide (w ∈ bk rs p))
  rw [fits_nil] at e1
  have lt : here.length < lim := by show _ < 1000000; omega
  have t0 : ([] : List D).length ≤ lim := by decide
  cases hf : fits rs s p with
  | true =>
    have e1' : (s.all fun w => decide (w ∈ bk rs p)) = true := hf
    rw [e1'] at e1
    cases prev with
    | none =>
      have hn : nxt rs gap none s p = true := by unfold nxt; rw [hf]; rfl
      refine ⟨some (.fz .non), nf_fz _, ?_⟩
      rw [hn, if_pos rfl, List.map_append]
      simp! [lb_law_comes_1, frzF, lComp, l1, c1, e1, befD, is_nn, t0, ne_non4, sApp, owAt0, owAts, lt]
    | some E =>
      have hn : nxt rs gap (some E) s p = !(nearL rs gap E p).isEmpty := by
        unfold nxt
        rw [hf, Bool.and_true, near_any]
        exact opn_any hr gap E hp
      have lp : (pl rs.length E).length ≤ 1000 := by
        unfold pl
        rw [List.length_map]
        exact Nat.le_trans (List.length_filter_le _ _) (by rw [List.length_range]; omega)
      have lp' : (pl rs.length E).length ≤ lim := by show _ ≤ 1000000; omega
      have c2 := near_comp rs gap E p hp
      have e2 := ne_nil4 (nearL rs gap E p)
      refine ⟨some (.fz (.lst ((nearL rs gap E p).map .int))), nf_fz _, ?_⟩
      rw [hn]
      cases hb : !(nearL rs gap E p).isEmpty with
      | true =>
        rw [hb] at e2
        rw [if_pos rfl, List.map_append]
        simp! [lb_law_comes_1, frzF, lComp, l1, c1, e1, befD, is_nl, t0, lp', c2, e2, sApp, owAt0, owAts, lt]
      | false =>
        rw [hb] at e2
        simp! [lb_law_comes_1, frzF, lComp, l1, c1, e1, befD, is_nl, t0, lp', c2, e2]
  | false =>
    have e1' : (s.all fun w => decide (w ∈ bk rs p)) = false := hf
    rw [e1'] at e1
    have hn : nxt rs gap prev s p = false := by unfold nxt; rw [hf, Bool.and_false]
    refine ⟨b7, h7, ?_⟩
    rw [hn]
    simp! [lb_law_comes_1, lComp, l1, c1, e1, t0]
theorem comes_loop1 {rs : List Run} (hr : rs.Pairwise (fun a b => a.1 < b.1)) (hl : rs.length ≤ 400) (gap : Option Int) (prev : Option (Nat → Bool)) (s : List Int) (hs : s.length ≤ 1000) (x1 : Option B) : ∀ (m k : Nat) (here : List Int) (b6 b7 : Option B), k + m = rs.length → here.length + m ≤ 1000 → NF b7 → ∃ b6' b7', NF b7' ∧
    runFor (bN 6) lb_law_comes_1 (rangeD (k : Int) m) [some (.fz (rowD rs)), x1, some (.fz (gapD gap)), some (.fz (befD rs.length prev)), some (.fz (TI s)), some (.ow (here.map .int)), b6, b7] = some (.nx, [some (.fz (rowD rs)), x1, some (.fz (gapD gap)), some (.fz (befD rs.length prev)), some (.fz (TI s)), some (.ow ((here ++ ((List.range' k m).filter (nxt rs gap prev s)).map fun i : Nat => (i : Int)).map .int)), b6', b7'])
  | 0, k, here, b6, b7, _, _, h7 => ⟨b6, b7, h7, by simp [rangeD, runFor]⟩
  | m + 1, k, here, b6, b7, hk, ht, h7 => by
    obtain ⟨c7, n7, hb⟩ := comes_body hr hl gap prev s hs here (by omega) k (by omega) x1 b7 h7
    obtain ⟨b6', b7', n7', ih⟩ := comes_loop1 hr hl gap prev s hs x1 m (k + 1) (if nxt rs gap prev s k then here ++ [(k : Int)] else here) (some (.fz (.int (k : Int)))) c7 (by omega) (by split <;> (try simp only [List.length_append, List.length_cons, List.length_nil]) <;> omega) n7
    refine ⟨b6', b7', n7', ?_⟩
    have e0 : bN 6 (.int (k : Int)) [some (.fz (rowD rs)), x1, some (.fz (gapD gap)), some (.fz (befD rs.length prev)), some (.fz (TI s)), some (.ow (here.map .int)), b6, b7] = some [some (.fz (rowD rs)), x1, some (.fz (gapD gap)), some (.fz (befD rs.length prev)), some (.fz (TI s)), some (.ow (here.map .int)), some (.fz (.int (k : Int))), b7] := rfl
    rw [rangeD_succ, runFor_nx e0 hb, show (k : Int) + 1 = ((k + 1 : Nat) : Int) by omega, ih, List.range'_succ, List.filter_cons]
    cases nxt rs gap prev s k <;> simp
theorem comes_loop2 {rs : List Run} (hr : rs.Pairwise (fun a b => a.1 < b.1)) (hl : rs.length ≤ 400) (gap : Option Int) (x1 : Option B) : ∀ (ws : List (List Int)) (prev : Option (Nat → Bool)) (b4 b5 b6 b7 : Option B), (∀ s ∈ ws, s.length ≤ 1000) → NF b5 → NF b7 → ∃ b4' b5' b6' b7', NF b5' ∧ NF b7' ∧
    runFor (bN 4) lb_law_comes_2 (ws.map TI) [some (.fz (rowD rs)), x1, some (.fz (gapD gap)), some (.fz (befD rs.length prev)), b4, b5, b6, b7] = some (.nx, [some (.fz (rowD rs)), x1, some (.fz (gapD gap)), some (.fz (befD rs.length (chS rs gap prev ws))), b4', b5', b6', b7'])
  | [], prev, b4, b5, b6, b7, _, h5, h7 => ⟨b4, b5, b6, b7, h5, h7, rfl⟩
  | s :: ws, prev, b4, b5, b6, b7, hp, h5, h7 => by
    obtain ⟨c6, c7, n7, hb⟩ := comes_loop1 hr hl gap prev s (hp s List.mem_cons_self) x1 rs.length 0 [] b6 b7 (by omega) (by simp only [List.length_nil]; omega) h7
    rw [show ((0 : Nat) : Int) = 0 from rfl, List.map_nil, List.nil_append, ← List.range_eq_range'] at hb
    have hpl : ((List.range rs.length).filter (nxt rs gap prev s)).map (fun i : Nat => (i : Int)) = pl rs.length (nxt rs gap prev s) := rfl
    rw [hpl] at hb
    obtain ⟨b4', b5', b6', b7', n5, n7', ih⟩ := comes_loop2 hr hl gap x1 ws (some (nxt rs gap prev s)) (some (.fz (TI s))) (some (.fz (.lst ((pl rs.length (nxt rs gap prev s)).map .int)))) c6 c7 (fun t h => hp t (List.mem_cons_of_mem _ h)) (nf_fz _) n7
    refine ⟨b4', b5', b6', b7', n5, n7', ?_⟩
    have r : iR1 (aCons (eCall oLen (aCons (eV 0) aNil)) aNil) [some (.fz (rowD rs)), x1, some (.fz (gapD gap)), some (.fz (befD rs.length prev)), some (.fz (TI s)), some (.ow []), b6, b7] = some (rangeD 0 rs.length) := by
      rw [iR1_int _ _ (rs.length : Int) (by simp! [if_true]) (by omega) (by omega), Int.toNat_natCast]
    have e7 := n7 []
    have body : lb_law_comes_2 [some (.fz (rowD rs)), x1, some (.fz (gapD gap)), some (.fz (befD rs.length prev)), some (.fz (TI s)), b5, b6, b7] = some (.nx, [some (.fz (rowD rs)), x1, some (.fz (gapD gap)), some (.fz (befD rs.length (some (nxt rs gap prev s)))), some (.fz (TI s)), some (.fz (.lst ((pl rs.length (nxt rs gap prev s)).map .int))), c6, c7]) := by
      simp! [lb_law_comes_2, sFor, r, hb, e7]
      rfl
    have e0 : bN 4 (TI s) [some (.fz (rowD rs)), x1, some (.fz (gapD gap)), some (.fz (befD rs.length prev)), b4, b5, b6, b7] = some [some (.fz (rowD rs)), x1, some (.fz (gapD gap)), some (.fz (befD rs.length prev)), some (.fz (TI s)), b5, b6, b7] := rfl
    rw [List.map_cons, runFor_nx e0 body, ih]
    rfl
theorem chS_some (rs : List Run) (gap : Option Int) : ∀ (ws : List (List Int)) (E : Nat → Bool), ∃ E', chS rs gap (some E) ws = some E'
  | [], E => ⟨E, rfl⟩
  | w :: ws, E => chS_some rs gap ws _
def comes (rs : List Run) (gap : Option Int) (ws : List (List Int)) : Bool := match chS rs gap none ws with
  | none => true
  | some E => !(pl rs.length E).isEmpty
theorem comes_eq {rs : List Run} (hr : rs.Pairwise (fun a b => a.1 < b.1)) (hl : rs.length ≤ 400) (gap : Option Int) (ws : List (List Int)) (hs : ∀ s ∈ ws, s.length ≤ 1000) (hw : ws ≠ []) : f_law_comes [rowD rs, .tup (ws.map TI), gapD gap] = some (.bl (comes rs gap ws)) := by
  obtain ⟨b4, b5, b6, b7, n5, n7, h⟩ := comes_loop2 hr hl gap (some (.fz (.tup (ws.map TI)))) ws none none none none none hs nf_none nf_none
  rw [show befD rs.length none = .non from rfl] at h
  have e5 := n5
  have e7 := n7
  unfold NF at e5 e7
  obtain ⟨E, hE⟩ : ∃ E, chS rs gap none ws = some E := by
    cases ws with
    | nil => exact absurd rfl hw
    | cons w ws => exact chS_some rs gap ws _
  have hc : comes rs gap ws = !(pl rs.length E).isEmpty := by unfold comes; rw [hE]
  rw [hE] at h
  have z := ne_nil4 (pl rs.length E)
  rw [hc]
  have t0 : ([] : List D).length ≤ lim := by decide
  rw [show befD rs.length (some E) = .lst ((pl rs.length E).map .int) from rfl] at h
  (refine run_ok ?_; simp! [u_law_comes, sFor, h, e5, e7, z, t0])
end My

set_option maxRecDepth 100000
set_option maxHeartbeats 1000000
open PySem PyProof.Rows L2 DL
namespace My
open PySem PyProof.Rows L2 DL
/-! what the walk has told -/
theorem walk_get {rs : List Run} {gap : Option Int} {n : Nat} : ∀ {bs : List (Nat → Bool)} {p : Nat} {qs : List Nat}, RC rs gap bs → walkB p bs = some qs → p ≤ n → ∀ i (hi : i < qs.length),
    qs[i] < n ∧ (∀ E, bs[i]? = some E → E qs[i] = true) ∧ ∀ h : i + 1 < qs.length, qs[i + 1] < qs[i] ∧ okG gap (tm rs qs[i] - tm rs qs[i + 1]) = true
  | [], p, qs, _, h, _, i, hi => by cases h; cases hi
  | E :: bs, p, qs, hr, h, hp, i, hi => by
    obtain ⟨q, r, h1, h2, rfl⟩ := walk_cons h
    obtain ⟨q1, q2, _⟩ := lastB_some h1
    cases bs with
    | nil =>
      cases h2
      have : i = 0 := by simp at hi; exact hi
      subst this
      exact ⟨by show q < n; omega, fun E' he => by cases he; exact q2, fun h => by simp at h⟩
    | cons E' bs =>
      cases i with
      | zero =>
        refine ⟨by show q < n; omega, fun E'' he => by cases he; exact q2, fun h => ?_⟩
        obtain ⟨q', r', h3, h4, rfl⟩ := walk_cons h2
        obtain ⟨r0, h5, h6⟩ := hr.1 q q2
        rw [h3] at h5
        cases h5
        exact ⟨(lastB_some h3).1, h6⟩
      | succ i =>
        have ih := walk_get (n := n) hr.2 h2 (by omega) i (by simpa using hi)
        exact ⟨ih.1, fun E'' he => ih.2.1 E'' he, fun h => ih.2.2 (by simpa using h)⟩
theorem emk_fits (rs : List Run) (gap : Option Int) : ∀ (pat : List (List Int)) (prev : Option (Nat → Bool)) (k : Nat) (E : Nat → Bool) (s : List Int), (emk rs gap prev pat)[k]? = some E → pat[k]? = some s → ∀ p, E p = true → fits rs s p = true
  | [], prev, k, E, s, h, _, p, _ => by cases h
  | t :: pat, prev, 0, E, s, h, hs, p, he => by
    cases h
    cases hs
    have h1 : (opo rs gap prev p && fits rs t p) = true := he
    rw [Bool.and_eq_true] at h1
    exact h1.2
  | t :: pat, prev, k + 1, E, s, h, hs, p, he => emk_fits rs gap pat _ k E s h hs p he
structure Walked (rs : List Run) (gap : Option Int) (pat : List (List Int)) (fs : List Nat) : Prop where
  len : fs.length = pat.length
  lt : ∀ k (h : k < fs.length), fs[k] < rs.length
  fit : ∀ k (h : k < fs.length) s, pat[k]? = some s → fits rs s fs[k] = true
  near : ∀ k (h : k + 1 < fs.length), fs[k] < fs[k + 1] ∧ okG gap (tm rs fs[k + 1] - tm rs fs[k]) = true
theorem walked_of {rs : List Run} {gap : Option Int} {pat : List (List Int)} {qs : List Nat} (h : walkB rs.length (emk rs gap none pat).reverse = some qs) : Walked rs gap pat qs.reverse := by
  have hl := walk_len h
  rw [List.length_reverse, emk_len] at hl
  have hr := emk_rc rs gap pat [] trivial
  rw [List.append_nil, show ([] : List (Nat → Bool)).head? = none from rfl] at hr
  have g := fun i hi => walk_get (n := rs.length) hr h (Nat.le_refl _) i hi
  refine ⟨by rw [List.length_reverse, hl], fun k hk => ?_, fun k hk s hs => ?_, fun k hk => ?_⟩
  · rw [List.length_reverse] at hk
    rw [List.getElem_reverse]
    exact (g _ (by omega)).1
  · rw [List.length_reverse] at hk
    rw [List.getElem_reverse]
    obtain ⟨E, hE⟩ : ∃ E, (emk rs gap none pat)[k]? = some E := ⟨_, List.getElem?_eq_getElem (by rw [emk_len]; omega)⟩
    refine emk_fits rs gap pat none k E s hE hs _ ((g (qs.length - 1 - k) (by omega)).2.1 E ?_)
    rw [List.getElem?_reverse (by rw [emk_len]; omega), emk_len, ← hE]
    congr 1
    omega
  · rw [List.length_reverse] at hk
    rw [List.getElem_reverse, List.getElem_reverse]
    have := (g (qs.length - 1 - (k + 1)) (by omega)).2.2 (by omega)
    have e : qs.length - 1 - (k + 1) + 1 = qs.length - 1 - k := by omega
    simp only [e] at this
    exact this
theorem walked_loop {rs : List Run} {gap : Option Int} {pat : List (List Int)} {fs : List Nat} (W : Walked rs gap pat fs) (hs : ∀ s ∈ pat, s.length ≤ 1000) : ∀ (n k : Nat) (b4 : Option B), k + n = fs.length → ∃ b4',
    runFor (bN 4) lb_law_walked_1 (rangeD (k : Int) n) [some (.fz (rowD rs)), some (.fz (.tup (pat.map TI))), some (.fz (gapD gap)), some (.fz (TI (fs.map fun q : Nat => (q : Int)))), b4] = some (.nx, [some (.fz (rowD rs)), some (.fz (.tup (pat.map TI))), some (.fz (gapD gap)), some (.fz (TI (fs.map fun q : Nat => (q : Int)))), b4'])
  | 0, k, b4, _ => ⟨b4, rfl⟩
  | n + 1, k, b4, hk => by
    obtain ⟨b4', ih⟩ := walked_loop W hs n (k + 1) (some (.fz (.int (k : Int)))) (by omega)
    refine ⟨b4', ?_⟩
    have hkl : k < fs.length := by omega
    have hkp : k < pat.length := by rw [← W.len]; exact hkl
    have l1 := W.lt k hkl
    have at1 : ∀ j (hj : j < fs.length), atI ((fs.map fun q : Nat => (q : Int)).map D.int) (j : Int) = some (.int (fs[j] : Int)) := fun j hj => by
      rw [atI_nat', List.getElem?_map, List.getElem?_map, List.getElem?_eq_getElem hj]; rfl
    have a1 := at1 k hkl
    have a2 : atI (pat.map TI) (k : Int) = some (TI pat[k]) := by rw [atI_nat', List.getElem?_map, List.getElem?_eq_getElem hkp]; rfl
    have c0 : ¬ ((fs[k] : Nat) : Int) < 0 := by omega
    have c1 : ¬ (rs.length : Int) ≤ ((fs[k] : Nat) : Int) := by omega
    have cm : runComp (bN 0) (bCmp (oIn true) (eV 0) (eOp oIx (eOp oIx (eV 1) (eOp oIx (eV 2) (eV 3))) (eC (.int 1)))) (eV 0) [none, some (.fz (rowD rs)), some (.fz (TI (fs.map fun q : Nat => (q : Int)))), some (.fz (.int (k : Int)))] (pat[k].map D.int) = some ((pat[k].filter fun w => !decide (w ∈ bk rs fs[k])).map D.int) :=
      compI _ _ fun x _ => by
        have a := row_at l1
        have o := oIn_not x (bk rs fs[k])
        simp! [a1, a, o]
    have fe : (pat[k].filter fun w => !decide (w ∈ bk rs fs[k])).isEmpty = true := by
      rw [fits_nil]
      exact W.fit k hkl pat[k] (List.getElem?_eq_getElem hkp)
    have e2 := ne_nil4 (pat[k].filter fun w => !decide (w ∈ bk rs fs[k]))
    rw [fe] at e2
    have ls : pat[k].length ≤ lim := by have := hs pat[k] (List.getElem_mem hkp); show _ ≤ 1000000; omega
    have t0 : ([] : List D).length ≤ lim := by decide
    have body : lb_law_walked_1 [some (.fz (rowD rs)), some (.fz (.tup (pat.map TI))), some (.fz (gapD gap)), some (.fz (TI (fs.map fun q : Nat => (q : Int)))), some (.fz (.int (k : Int)))] = some (.nx, [some (.fz (rowD rs)), some (.fz (.tup (pat.map TI))), some (.fz (gapD gap)), some (.fz (TI (fs.map fun q : Nat => (q : Int)))), some (.fz (.int (k : Int)))]) := by
      cases k with
      | zero =>
        have z : ((0 : Nat) : Int) = 0 := rfl
        rw [z] at cm ⊢
        have b1 : ((fs.map fun q : Nat => (q : Int)).map D.int)[0]? = some (.int (fs[0] : Int)) := by rw [List.getElem?_map, List.getElem?_map, List.getElem?_eq_getElem hkl]; rfl
        have b2 : (pat.map TI)[0]? = some (TI pat[0]) := by rw [List.getElem?_map, List.getElem?_eq_getElem hkp]; rfl
        simp! [lb_law_walked_1, b1, b2, c0, c1, lComp, ls, cm, t0, e2]
      | succ j =>
        have hj := W.near j hkl
        have ne := near_eq (rs := rs) gap (W.lt j (by omega)) l1
        rw [decide_eq_true hj.1, hj.2, Bool.true_and] at ne
        have a3 := at1 j (by omega)
        have sb : ((j + 1 : Nat) : Int) - 1 = (j : Int) := by omega
        have gt : (0 : Int) < ((j + 1 : Nat) : Int) := by omega
        simp! [lb_law_walked_1, a1, a2, c0, c1, lComp, ls, cm, t0, e2, gt, sb, a3, ne]
    have e0 : bN 4 (.int (k : Int)) [some (.fz (rowD rs)), some (.fz (.tup (pat.map TI))), some (.fz (gapD gap)), some (.fz (TI (fs.map fun q : Nat => (q : Int)))), b4] = some [some (.fz (rowD rs)), some (.fz (.tup (pat.map TI))), some (.fz (gapD gap)), some (.fz (TI (fs.map fun q : Nat => (q : Int)))), some (.fz (.int (k : Int)))] := rfl
    rw [rangeD_succ, runFor_nx e0 body, show (k : Int) + 1 = ((k + 1 : Nat) : Int) by omega, ih]
theorem walked_eq {rs : List Run} {gap : Option Int} {pat : List (List Int)} {fs : List Nat} (W : Walked rs gap pat fs) (hs : ∀ s ∈ pat, s.length ≤ 1000) (hp : pat.length ≤ 1000) : f_law_walked [rowD rs, .tup (pat.map TI), gapD gap, TI (fs.map fun q : Nat => (q : Int))] = some (.bl true) := by
  obtain ⟨b4, h⟩ := walked_loop W hs fs.length 0 none (by omega)
  rw [show ((0 : Nat) : Int) = 0 from rfl] at h
  have hl := W.len
  have r : iR1 (aCons (eCall oLen (aCons (eV 3) aNil)) aNil) [some (.fz (rowD rs)), some (.fz (.tup (pat.map TI))), some (.fz (gapD gap)), some (.fz (TI (fs.map fun q : Nat => (q : Int)))), none] = some (rangeD 0 fs.length) := by
    rw [iR1_int _ _ (fs.length : Int) (by simp! [if_true]) (by omega) (by omega), Int.toNat_natCast]
  have n : oNeF (.int (fs.length : Int)) (.int (pat.length : Int)) = some (.bl false) := by rw [oNe_int, decide_eq_true (by rw [hl])]; rfl
  (refine run_ok ?_; simp! [u_law_walked, n, sFor, r, h])
theorem okEL_ints : ∀ ns : List Int, okEL (ns.map D.int) (ns.map D.int) = true
  | [] => rfl
  | n :: ns => by simp only [List.map_cons, okEL, okEL_ints ns, Bool.and_true]; rfl
theorem eqL_ints : ∀ ns : List Int, eqL (ns.map D.int) (ns.map D.int) = true
  | [] => rfl
  | n :: ns => by
    simp only [List.map_cons, eqL, eqL_ints ns, Bool.and_true]
    show (n == n) = true
    simp
theorem eq_TI (ns : List Int) : oEq (TI ns) (TI ns) = some (.bl true) := by
  show (none : Option D).or (if (okEL (ns.map D.int) (ns.map D.int) && decide (depL (ns.map D.int) ≤ 60)) = true then some (D.bl (eqL (ns.map D.int) (ns.map D.int))) else none) = _
  rw [depL_ints, okEL_ints, eqL_ints]
  rfl
theorem told_eq {rs : List Run} (hr : rs.Pairwise (fun a b => a.1 < b.1)) (hl : rs.length ≤ 400) (gap : Option Int) (pat : List (List Int)) (hp : pat.length ≤ 1000) (hs : ∀ s ∈ pat, s.length ≤ 1000) (hw : pat ≠ []) : f_law_told [rowD rs, .tup (pat.map TI), gapD gap] = some (.bl true) := by
  obtain ⟨E, hE⟩ : ∃ E, chS rs gap none pat = some E := by
    cases pat with
    | nil => exact absurd rfl hw
    | cons w ws => exact chS_some rs gap ws _
  have cm := comes_eq hr hl gap pat hs hw
  have hc : comes rs gap pat = (lastB E rs.length).isSome := by unfold comes; rw [hE, last_pl]
  cases h : lastB E rs.length with
  | none =>
    rw [h] at hc
    rw [hc] at cm
    have cm : f_law_comes [rowD rs, .tup (pat.map TI), gapD gap] = some (.bl false) := cm
    have p := places_none rs (by omega) gap pat hp hE hw h
    cases gap with
    | none =>
      rw [show gapD none = .non from rfl] at cm p ⊢
      (refine run_ok ?_; simp! [u_law_told, is_pn, p, cm])
    | some g =>
      rw [show gapD (some g) = .int g from rfl] at cm p ⊢
      (refine run_ok ?_; simp! [u_law_told, is_pi, is_pn, p, cm])
  | some q =>
    rw [h] at hc
    rw [hc] at cm
    have cm : f_law_comes [rowD rs, .tup (pat.map TI), gapD gap] = some (.bl true) := cm
    obtain ⟨qs, hq, p⟩ := places_some rs (by omega) gap pat hp hE hw h
    have wk := walked_eq (walked_of hq) hs hp
    have e := eq_TI (qs.reverse.map fun q : Nat => (q : Int))
    cases gap with
    | none =>
      rw [show gapD none = .non from rfl] at cm p wk ⊢
      (refine run_ok ?_; simp! [u_law_told, is_pn, p, cm, wk, e])
    | some g =>
      rw [show gapD (some g) = .int g from rfl] at cm p wk ⊢
      (refine run_ok ?_; simp! [u_law_told, is_pi, p, cm, wk, e])
end My

set_option maxRecDepth 100000
set_option maxHeartbeats 1000000
open PySem PyProof.Rows L2 DL
namespace My
open PySem PyProof.Rows L2 DL
theorem places_zero {rs : List Run} (hr : rs.Pairwise (fun a b => a.1 < b.1)) (hl : rs.length ≤ 400) (pat : List (List Int)) (hp : pat.length ≤ 1000) (h2 : 1 < pat.length) : f_places [rowD rs, .tup (pat.map TI), .int 0] = some .non := by
  have hw : pat ≠ [] := fun z => by rw [z] at h2; cases h2
  obtain ⟨E, r, h1, hE⟩ := emk_last rs (some 0) pat none hw
  have hr2 := emk_rc rs (some 0) pat [] trivial
  rw [List.append_nil, show ([] : List (Nat → Bool)).head? = none from rfl, h1] at hr2
  have len : (E :: r).length = pat.length := by rw [← h1, List.length_reverse, emk_len]
  have hn : lastB E rs.length = none := by
    cases h : lastB E rs.length with
    | none => rfl
    | some q =>
      exfalso
      obtain ⟨q1, q2, _⟩ := lastB_some h
      cases r with
      | nil => simp at len; omega
      | cons E' r =>
        obtain ⟨p, p1, p2⟩ := hr2.1 q q2
        have p3 := (lastB_some p1).1
        have := tm_mono hr p3 q1
        have p4 : tm rs q - tm rs p ≤ 0 := of_decide_eq_true p2
        omega
  exact places_none rs (by omega) (some 0) pat hp hE hw hn
theorem places_empty (gap : Option Int) (pat : List (List Int)) (hp : pat.length ≤ 1000) (hw : pat ≠ []) : f_places [.tup [], .tup (pat.map TI), gapD gap] = some .non := by
  obtain ⟨E, hE⟩ : ∃ E, chS [] gap none pat = some E := by
    cases pat with
    | nil => exact absurd rfl hw
    | cons w ws => exact chS_some [] gap ws _
  exact places_none [] (by decide) gap pat hp hE hw rfl
theorem law_loop {rs : List Run} (hr : rs.Pairwise (fun a b => a.1 < b.1)) (hl : rs.length ≤ 400) (gap : Option Int) (pat : List (List Int)) (hs : ∀ s ∈ pat, s.length ≤ 1000) (hp : pat.length ≤ 100) (x0 : Option B) : ∀ (n k : Nat) (b4 : Option B), 1 ≤ k → k + n ≤ pat.length + 1 → ∃ b4',
    runFor (bN 4) lb_law_1 (rangeD (k : Int) n) [x0, some (.fz (rowD rs)), some (.fz (.tup (pat.map TI))), some (.fz (gapD gap)), b4] = some (.nx, [x0, some (.fz (rowD rs)), some (.fz (.tup (pat.map TI))), some (.fz (gapD gap)), b4'])
  | 0, k, b4, _, _ => ⟨b4, rfl⟩
  | n + 1, k, b4, h1, h2 => by
    obtain ⟨b4', ih⟩ := law_loop hr hl gap pat hs hp x0 n (k + 1) (some (.fz (.int (k : Int)))) (by omega) (by omega)
    refine ⟨b4', ?_⟩
    have sl : oSl (.tup (pat.map TI)) none (some (k : Int)) = some (.tup ((pat.take k).map TI)) := by
      show some (D.tup (cutD (pat.map TI) none (some (k : Int)))) = _
      rw [cut_none_to (α := D), ← List.map_take]
    have hne : pat.take k ≠ [] := fun z => by
      have : (pat.take k).length = 0 := by rw [z]; rfl
      rw [List.length_take] at this
      omega
    have t := told_eq hr hl gap (pat.take k) (by rw [List.length_take]; omega) (fun s h => hs s (List.mem_of_mem_take h)) hne
    have body : lb_law_1 [x0, some (.fz (rowD rs)), some (.fz (.tup (pat.map TI))), some (.fz (gapD gap)), some (.fz (.int (k : Int)))] = some (.nx, [x0, some (.fz (rowD rs)), some (.fz (.tup (pat.map TI))), some (.fz (gapD gap)), some (.fz (.int (k : Int)))]) := by
      simp! [lb_law_1, sl, t]
    have e0 : bN 4 (.int (k : Int)) [x0, some (.fz (rowD rs)), some (.fz (.tup (pat.map TI))), some (.fz (gapD gap)), b4] = some [x0, some (.fz (rowD rs)), some (.fz (.tup (pat.map TI))), some (.fz (gapD gap)), some (.fz (.int (k : Int)))] := rfl
    rw [rangeD_succ, runFor_nx e0 body, show (k : Int) + 1 = ((k + 1 : Nat) : Int) by omega, ih]
theorem law_true (ns : List Int) (hl : ns.length ≤ 63) : f_law [.lst (ns.map .int)] = some (.bl true) := by
  obtain ⟨rs, hrow, rl, hr⟩ := law_row_ok ns
  obtain ⟨m1, hm1, _⟩ := law_number_ok ns 1 (by decide) (by decide)
  obtain ⟨pat, hpat, p6, p1, ps⟩ := law_pattern_ok m1
  obtain ⟨m2, hm2, _⟩ := law_number_ok ns 2 (by decide) (by decide)
  obtain ⟨gap, hgap⟩ := law_gap_ok m2 rs
  have hs : ∀ s ∈ pat, s.length ≤ 1000 := fun s h => by have := ps s h; omega
  have hne : pat ≠ [] := fun z => by rw [z] at p1; cases p1
  obtain ⟨b4, h4⟩ := law_loop hr (by omega) gap pat hs (by omega) (some (.fz (.lst (ns.map .int)))) pat.length 1 none (by omega) (by omega)
  rw [show ((1 : Nat) : Int) = 1 from rfl] at h4
  have r2 : iR2 (aCons (eC (.int 1)) (aCons (eOp oPlus (eCall oLen (aCons (eV 2) aNil)) (eC (.int 1))) aNil)) [some (.fz (.lst (ns.map .int))), some (.fz (rowD rs)), some (.fz (.tup (pat.map TI))), some (.fz (gapD gap)), none] = some (rangeD 1 pat.length) := by
    have e : aCons (eC (.int 1)) (aCons (eOp oPlus (eCall oLen (aCons (eV 2) aNil)) (eC (.int 1))) aNil) [some (.fz (.lst (ns.map .int))), some (.fz (rowD rs)), some (.fz (.tup (pat.map TI))), some (.fz (gapD gap)), none] = some [.int 1, .int ((pat.length : Int) + 1)] := by simp! [if_true]
    unfold iR2
    rw [e, Option.bind_some]
    have b1 : decide (-(2 ^ 62) ≤ (pat.length : Int) + 1) = true := decide_eq_true (by omega)
    have b2 : decide ((pat.length : Int) + 1 < 2 ^ 62) = true := decide_eq_true (by omega)
    show (if ((decide (-(2 ^ 62) ≤ (1 : Int)) && decide ((1 : Int) < 2 ^ 62)) && (decide (-(2 ^ 62) ≤ (pat.length : Int) + 1) && decide ((pat.length : Int) + 1 < 2 ^ 62))) = true then some (rangeD 1 ((pat.length : Int) + 1 - 1).toNat) else none) = _
    rw [b1, b2, show ((pat.length : Int) + 1 - 1).toNat = pat.length by omega]
    rfl
  have z := places_empty gap pat (by omega) hne
  have t1 := told_eq hr (by omega) none pat (by omega) hs hne
  rw [show gapD none = .non from rfl] at t1
  have t2 := told_eq hr (by omega) gap pat.reverse (by rw [List.length_reverse]; omega) (fun s h => hs s (List.mem_reverse.mp h)) (fun z => hne (List.reverse_eq_nil_iff.mp z))
  rw [List.map_reverse] at t2
  have t0 : ([] : List D).length ≤ lim := by decide
  by_cases h2 : 1 < pat.length
  · have h2' : (1 : Int) < (pat.length : Int) := by omega
    have pz := places_zero hr (by omega) pat (by omega) h2
    (refine run_ok ?_; simp! [u_law, hrow, hm1, hpat, hm2, hgap, sFor, r2, h4, h2', pz, is_nn, t0, z, t1, eRevS, t2])
  · have h2' : ¬ (1 : Int) < (pat.length : Int) := by omega
    (refine run_ok ?_; simp! [u_law, hrow, hm1, hpat, hm2, hgap, sFor, r2, h4, h2', is_nn, t0, z, t1, eRevS, t2])
end My

set_option maxHeartbeats 4000000
namespace My
open PySem PySem.Spec PyProof.Rows L2 DL
theorem ln1 {s : Shared} {fd : FuncData} {ps : List Str} (h : ∀ a0, BindsTo s fd ⟨[a0], []⟩ (ps.zip ([a0] ++ []))) : ∀ us : List Value, (us ++ []).length = 1 → BindsTo s fd ⟨us, []⟩ (ps.zip (us ++ []))
  | [a0], _ => h a0
theorem ln2 {s : Shared} {fd : FuncData} {ps : List Str} (h : ∀ a0 a1, BindsTo s fd ⟨[a0, a1], []⟩ (ps.zip ([a0, a1] ++ []))) : ∀ us : List Value, (us ++ []).length = 2 → BindsTo s fd ⟨us, []⟩ (ps.zip (us ++ []))
  | [a0, a1], _ => h a0 a1
theorem ln3 {s : Shared} {fd : FuncData} {ps : List Str} (h : ∀ a0 a1 a2, BindsTo s fd ⟨[a0, a1, a2], []⟩ (ps.zip ([a0, a1, a2] ++ []))) : ∀ us : List Value, (us ++ []).length = 3 → BindsTo s fd ⟨us, []⟩ (ps.zip (us ++ []))
  | [a0, a1, a2], _ => h a0 a1 a2
theorem ln4 {s : Shared} {fd : FuncData} {ps : List Str} (h : ∀ a0 a1 a2 a3, BindsTo s fd ⟨[a0, a1, a2, a3], []⟩ (ps.zip ([a0, a1, a2, a3] ++ []))) : ∀ us : List Value, (us ++ []).length = 4 → BindsTo s fd ⟨us, []⟩ (ps.zip (us ++ []))
  | [a0, a1, a2, a3], _ => h a0 a1 a2 a3
set_option maxHeartbeats 4000000 in
theorem all_mk [Lam] {l : PySem.W.OpenLaw} {w : World} {K : Frag} {h : Heap} {mg : Str → Option Value} {fa : Addr} (X : K.In h) (G : h.Ns mainGlobals mg) (hfa : mg "law" = some (.ref fa)) (hm : ∀ ns : List Int, ns.length ≤ 63 → f_law [.lst (ns.map .int)] = some (.bl true))
    {fa_law_cell : Addr} {od_law_cell an_law_cell : Option Addr} {sl_law_cell : Array (Option Value)} {oc_law_cell kV_law_cell dc_law_cell pm_law_cell cd_law_cell ct_law_cell : Value}
    (x_law_cell : PySem.W.nsIn K mainGlobals "_law_cell" = some (some (.ref fa_law_cell)))
    (l_law_cell : K.lookup fa_law_cell = some ⟨oc_law_cell, od_law_cell, .func (PySem.W.fnOf "_law_cell" "_law_cell" (defArgs s_law_cell) (defBody s_law_cell) (defScope s_law_cell) .none kV_law_cell dc_law_cell pm_law_cell an_law_cell cd_law_cell ct_law_cell), sl_law_cell⟩)
    (q_law_cell : PySem.W.codeIn K cd_law_cell "_law_cell" = true) (k_law_cell : PySem.W.keepIn K (.ref fa_law_cell) = true)
    {fa_law_mixed : Addr} {od_law_mixed an_law_mixed : Option Addr} {sl_law_mixed : Array (Option Value)} {oc_law_mixed kV_law_mixed dc_law_mixed pm_law_mixed cd_law_mixed ct_law_mixed : Value}
    (x_law_mixed : PySem.W.nsIn K mainGlobals "_law_mixed" = some (some (.ref fa_law_mixed)))
    (l_law_mixed : K.lookup fa_law_mixed = some ⟨oc_law_mixed, od_law_mixed, .func (PySem.W.fnOf "_law_mixed" "_law_mixed" (defArgs s_law_mixed) (defBody s_law_mixed) (defScope s_law_mixed) .none kV_law_mixed dc_law_mixed pm_law_mixed an_law_mixed cd_law_mixed ct_law_mixed), sl_law_mixed⟩)
    (q_law_mixed : PySem.W.codeIn K cd_law_mixed "_law_mixed" = true) (k_law_mixed : PySem.W.keepIn K (.ref fa_law_mixed) = true)
    {fa_law_many_moments : Addr} {od_law_many_moments an_law_many_moments : Option Addr} {sl_law_many_moments : Array (Option Value)} {oc_law_many_moments kV_law_many_moments dc_law_many_moments pm_law_many_moments cd_law_many_moments ct_law_many_moments : Value}
    (x_law_many_moments : PySem.W.nsIn K mainGlobals "_law_many_moments" = some (some (.ref fa_law_many_moments)))
    (l_law_many_moments : K.lookup fa_law_many_moments = some ⟨oc_law_many_moments, od_law_many_moments, .func (PySem.W.fnOf "_law_many_moments" "_law_many_moments" (defArgs s_law_many_moments) (defBody s_law_many_moments) (defScope s_law_many_moments) .none kV_law_many_moments dc_law_many_moments pm_law_many_moments an_law_many_moments cd_law_many_moments ct_law_many_moments), sl_law_many_moments⟩)
    (q_law_many_moments : PySem.W.codeIn K cd_law_many_moments "_law_many_moments" = true) (k_law_many_moments : PySem.W.keepIn K (.ref fa_law_many_moments) = true)
    {fa_law_number : Addr} {od_law_number an_law_number : Option Addr} {sl_law_number : Array (Option Value)} {oc_law_number kV_law_number dc_law_number pm_law_number cd_law_number ct_law_number : Value}
    (x_law_number : PySem.W.nsIn K mainGlobals "_law_number" = some (some (.ref fa_law_number)))
    (l_law_number : K.lookup fa_law_number = some ⟨oc_law_number, od_law_number, .func (PySem.W.fnOf "_law_number" "_law_number" (defArgs s_law_number) (defBody s_law_number) (defScope s_law_number) .none kV_law_number dc_law_number pm_law_number an_law_number cd_law_number ct_law_number), sl_law_number⟩)
    (q_law_number : PySem.W.codeIn K cd_law_number "_law_number" = true) (k_law_number : PySem.W.keepIn K (.ref fa_law_number) = true)
    {fa_law_set : Addr} {od_law_set an_law_set : Option Addr} {sl_law_set : Array (Option Value)} {oc_law_set kV_law_set dc_law_set pm_law_set cd_law_set ct_law_set : Value}
    (x_law_set : PySem.W.nsIn K mainGlobals "_law_set" = some (some (.ref fa_law_set)))
    (l_law_set : K.lookup fa_law_set = some ⟨oc_law_set, od_law_set, .func (PySem.W.fnOf "_law_set" "_law_set" (defArgs s_law_set) (defBody s_law_set) (defScope s_law_set) .none kV_law_set dc_law_set pm_law_set an_law_set cd_law_set ct_law_set), sl_law_set⟩)
    (q_law_set : PySem.W.codeIn K cd_law_set "_law_set" = true) (k_law_set : PySem.W.keepIn K (.ref fa_law_set) = true)
    {fa_law_row : Addr} {od_law_row an_law_row : Option Addr} {sl_law_row : Array (Option Value)} {oc_law_row kV_law_row dc_law_row pm_law_row cd_law_row ct_law_row : Value}
    (x_law_row : PySem.W.nsIn K mainGlobals "_law_row" = some (some (.ref fa_law_row)))
    (l_law_row : K.lookup fa_law_row = some ⟨oc_law_row, od_law_row, .func (PySem.W.fnOf "_law_row" "_law_row" (defArgs s_law_row) (defBody s_law_row) (defScope s_law_row) .none kV_law_row dc_law_row pm_law_row an_law_row cd_law_row ct_law_row), sl_law_row⟩)
    (q_law_row : PySem.W.codeIn K cd_law_row "_law_row" = true) (k_law_row : PySem.W.keepIn K (.ref fa_law_row) = true)
    {fa_law_pattern : Addr} {od_law_pattern an_law_pattern : Option Addr} {sl_law_pattern : Array (Option Value)} {oc_law_pattern kV_law_pattern dc_law_pattern pm_law_pattern cd_law_pattern ct_law_pattern : Value}
    (x_law_pattern : PySem.W.nsIn K mainGlobals "_law_pattern" = some (some (.ref fa_law_pattern)))
    (l_law_pattern : K.lookup fa_law_pattern = some ⟨oc_law_pattern, od_law_pattern, .func (PySem.W.fnOf "_law_pattern" "_law_pattern" (defArgs s_law_pattern) (defBody s_law_pattern) (defScope s_law_pattern) .none kV_law_pattern dc_law_pattern pm_law_pattern an_law_pattern cd_law_pattern ct_law_pattern), sl_law_pattern⟩)
    (q_law_pattern : PySem.W.codeIn K cd_law_pattern "_law_pattern" = true) (k_law_pattern : PySem.W.keepIn K (.ref fa_law_pattern) = true)
    {fa_law_gap : Addr} {od_law_gap an_law_gap : Option Addr} {sl_law_gap : Array (Option Value)} {oc_law_gap kV_law_gap dc_law_gap pm_law_gap cd_law_gap ct_law_gap : Value}
    (x_law_gap : PySem.W.nsIn K mainGlobals "_law_gap" = some (some (.ref fa_law_gap)))
    (l_law_gap : K.lookup fa_law_gap = some ⟨oc_law_gap, od_law_gap, .func (PySem.W.fnOf "_law_gap" "_law_gap" (defArgs s_law_gap) (defBody s_law_gap) (defScope s_law_gap) .none kV_law_gap dc_law_gap pm_law_gap an_law_gap cd_law_gap ct_law_gap), sl_law_gap⟩)
    (q_law_gap : PySem.W.codeIn K cd_law_gap "_law_gap" = true) (k_law_gap : PySem.W.keepIn K (.ref fa_law_gap) = true)
    {fa_every_place : Addr} {od_every_place an_every_place : Option Addr} {sl_every_place : Array (Option Value)} {oc_every_place kV_every_place dc_every_place pm_every_place cd_every_place ct_every_place : Value}
    (x_every_place : PySem.W.nsIn K mainGlobals "every_place" = some (some (.ref fa_every_place)))
    (l_every_place : K.lookup fa_every_place = some ⟨oc_every_place, od_every_place, .func (PySem.W.fnOf "every_place" "every_place" (defArgs s_every_place) (defBody s_every_place) (defScope s_every_place) .none kV_every_place dc_every_place pm_every_place an_every_place cd_every_place ct_every_place), sl_every_place⟩)
    (q_every_place : PySem.W.codeIn K cd_every_place "every_place" = true) (k_every_place : PySem.W.keepIn K (.ref fa_every_place) = true)
    {fa_open_places : Addr} {od_open_places an_open_places : Option Addr} {sl_open_places : Array (Option Value)} {oc_open_places kV_open_places dc_open_places pm_open_places cd_open_places ct_open_places : Value}
    (x_open_places : PySem.W.nsIn K mainGlobals "open_places" = some (some (.ref fa_open_places)))
    (l_open_places : K.lookup fa_open_places = some ⟨oc_open_places, od_open_places, .func (PySem.W.fnOf "open_places" "open_places" (defArgs s_open_places) (defBody s_open_places) (defScope s_open_places) .none kV_open_places dc_open_places pm_open_places an_open_places cd_open_places ct_open_places), sl_open_places⟩)
    (q_open_places : PySem.W.codeIn K cd_open_places "open_places" = true) (k_open_places : PySem.W.keepIn K (.ref fa_open_places) = true)
    {fa_column : Addr} {od_column an_column : Option Addr} {sl_column : Array (Option Value)} {oc_column kV_column dc_column pm_column cd_column ct_column : Value}
    (x_column : PySem.W.nsIn K mainGlobals "column" = some (some (.ref fa_column)))
    (l_column : K.lookup fa_column = some ⟨oc_column, od_column, .func (PySem.W.fnOf "column" "column" (defArgs s_column) (defBody s_column) (defScope s_column) .none kV_column dc_column pm_column an_column cd_column ct_column), sl_column⟩)
    (q_column : PySem.W.codeIn K cd_column "column" = true) (k_column : PySem.W.keepIn K (.ref fa_column) = true)
    {fa_places_above : Addr} {od_places_above an_places_above : Option Addr} {sl_places_above : Array (Option Value)} {oc_places_above kV_places_above dc_places_above pm_places_above cd_places_above ct_places_above : Value}
    (x_places_above : PySem.W.nsIn K mainGlobals "places_above" = some (some (.ref fa_places_above)))
    (l_places_above : K.lookup fa_places_above = some ⟨oc_places_above, od_places_above, .func (PySem.W.fnOf "places_above" "places_above" (defArgs s_places_above) (defBody s_places_above) (defScope s_places_above) .none kV_places_above dc_places_above pm_places_above an_places_above cd_places_above ct_places_above), sl_places_above⟩)
    (q_places_above : PySem.W.codeIn K cd_places_above "places_above" = true) (k_places_above : PySem.W.keepIn K (.ref fa_places_above) = true)
    {fa_end_marks : Addr} {od_end_marks an_end_marks : Option Addr} {sl_end_marks : Array (Option Value)} {oc_end_marks kV_end_marks dc_end_marks pm_end_marks cd_end_marks ct_end_marks : Value}
    (x_end_marks : PySem.W.nsIn K mainGlobals "end_marks" = some (some (.ref fa_end_marks)))
    (l_end_marks : K.lookup fa_end_marks = some ⟨oc_end_marks, od_end_marks, .func (PySem.W.fnOf "end_marks" "end_marks" (defArgs s_end_marks) (defBody s_end_marks) (defScope s_end_marks) .none kV_end_marks dc_end_marks pm_end_marks an_end_marks cd_end_marks ct_end_marks), sl_end_marks⟩)
    (q_end_marks : PySem.W.codeIn K cd_end_marks "end_marks" = true) (k_end_marks : PySem.W.keepIn K (.ref fa_end_marks) = true)
    {fa_places : Addr} {od_places an_places : Option Addr} {sl_places : Array (Option Value)} {oc_places kV_places dc_places pm_places cd_places ct_places : Value} {T_places : Addr}
    (x_places : PySem.W.nsIn K mainGlobals "places" = some (some (.ref fa_places)))
    (l_places : K.lookup fa_places = some ⟨oc_places, od_places, .func (PySem.W.fnOf "places" "places" (defArgs s_places) (defBody s_places) (defScope s_places) (.ref T_places) kV_places dc_places pm_places an_places cd_places ct_places), sl_places⟩)
    (q_places : PySem.W.codeIn K cd_places "places" = true) (k_places : PySem.W.keepIn K (.ref fa_places) = true)
    {ocd_places : Value} {odd_places : Option Addr} {nd_places : Nat} {sld_places : Array (Option Value)} (d_places : K.lookup T_places = some ⟨ocd_places, odd_places, .seq #[.none] nd_places, sld_places⟩)
    {fa_law_near : Addr} {od_law_near an_law_near : Option Addr} {sl_law_near : Array (Option Value)} {oc_law_near kV_law_near dc_law_near pm_law_near cd_law_near ct_law_near : Value}
    (x_law_near : PySem.W.nsIn K mainGlobals "_law_near" = some (some (.ref fa_law_near)))
    (l_law_near : K.lookup fa_law_near = some ⟨oc_law_near, od_law_near, .func (PySem.W.fnOf "_law_near" "_law_near" (defArgs s_law_near) (defBody s_law_near) (defScope s_law_near) .none kV_law_near dc_law_near pm_law_near an_law_near cd_law_near ct_law_near), sl_law_near⟩)
    (q_law_near : PySem.W.codeIn K cd_law_near "_law_near" = true) (k_law_near : PySem.W.keepIn K (.ref fa_law_near) = true)
    {fa_law_comes : Addr} {od_law_comes an_law_comes : Option Addr} {sl_law_comes : Array (Option Value)} {oc_law_comes kV_law_comes dc_law_comes pm_law_comes cd_law_comes ct_law_comes : Value}
    (x_law_comes : PySem.W.nsIn K mainGlobals "_law_comes" = some (some (.ref fa_law_comes)))
    (l_law_comes : K.lookup fa_law_comes = some ⟨oc_law_comes, od_law_comes, .func (PySem.W.fnOf "_law_comes" "_law_comes" (defArgs s_law_comes) (defBody s_law_comes) (defScope s_law_comes) .none kV_law_comes dc_law_comes pm_law_comes an_law_comes cd_law_comes ct_law_comes), sl_law_comes⟩)
    (q_law_comes : PySem.W.codeIn K cd_law_comes "_law_comes" = true) (k_law_comes : PySem.W.keepIn K (.ref fa_law_comes) = true)
    {fa_law_walked : Addr} {od_law_walked an_law_walked : Option Addr} {sl_law_walked : Array (Option Value)} {oc_law_walked kV_law_walked dc_law_walked pm_law_walked cd_law_walked ct_law_walked : Value}
    (x_law_walked : PySem.W.nsIn K mainGlobals "_law_walked" = some (some (.ref fa_law_walked)))
    (l_law_walked : K.lookup fa_law_walked = some ⟨oc_law_walked, od_law_walked, .func (PySem.W.fnOf "_law_walked" "_law_walked" (defArgs s_law_walked) (defBody s_law_walked) (defScope s_law_walked) .none kV_law_walked dc_law_walked pm_law_walked an_law_walked cd_law_walked ct_law_walked), sl_law_walked⟩)
    (q_law_walked : PySem.W.codeIn K cd_law_walked "_law_walked" = true) (k_law_walked : PySem.W.keepIn K (.ref fa_law_walked) = true)
    {fa_law_told : Addr} {od_law_told an_law_told : Option Addr} {sl_law_told : Array (Option Value)} {oc_law_told kV_law_told dc_law_told pm_law_told cd_law_told ct_law_told : Value}
    (x_law_told : PySem.W.nsIn K mainGlobals "_law_told" = some (some (.ref fa_law_told)))
    (l_law_told : K.lookup fa_law_told = some ⟨oc_law_told, od_law_told, .func (PySem.W.fnOf "_law_told" "_law_told" (defArgs s_law_told) (defBody s_law_told) (defScope s_law_told) .none kV_law_told dc_law_told pm_law_told an_law_told cd_law_told ct_law_told), sl_law_told⟩)
    (q_law_told : PySem.W.codeIn K cd_law_told "_law_told" = true) (k_law_told : PySem.W.keepIn K (.ref fa_law_told) = true)
    {fa_law : Addr} {od_law an_law : Option Addr} {sl_law : Array (Option Value)} {oc_law kV_law dc_law pm_law cd_law ct_law : Value}
    (x_law : PySem.W.nsIn K mainGlobals "law" = some (some (.ref fa_law)))
    (l_law : K.lookup fa_law = some ⟨oc_law, od_law, .func (PySem.W.fnOf "law" "law" (defArgs s_law) (defBody s_law) (defScope s_law) .none kV_law dc_law pm_law an_law cd_law ct_law), sl_law⟩)
    (q_law : PySem.W.codeIn K cd_law "law" = true) (k_law : PySem.W.keepIn K (.ref fa_law) = true)
    (z_len : PySem.W.nsIn K mainGlobals "len" = some none)
    (z_max : PySem.W.nsIn K mainGlobals "max" = some none)
    (z_min : PySem.W.nsIn K mainGlobals "min" = some none)
    (z_range : PySem.W.nsIn K mainGlobals "range" = some none)
    (z_tuple : PySem.W.nsIn K mainGlobals "tuple" = some none)
    (z_abs : PySem.W.nsIn K mainGlobals "abs" = some none)
    (z_int : PySem.W.nsIn K mainGlobals "int" = some none)
    (z_enumerate : PySem.W.nsIn K mainGlobals "enumerate" = some none)
    (z_sum : PySem.W.nsIn K mainGlobals "sum" = some none)
    (z_reversed : PySem.W.nsIn K mainGlobals "reversed" = some none)
    (z_isinstance : PySem.W.nsIn K mainGlobals "isinstance" = some none)
    (z_bool : PySem.W.nsIn K mainGlobals "bool" = some none)
    : ∃ fd : FuncData, (∀ (s : Shared) (v : Value), BindsTo s fd ⟨[v], []⟩ [("_law_script", v)]) ∧ ∀ base : Heap, K.In base → base.Ns mainGlobals mg → FnOk l.prog w K mg base CX0 6 fa fd ["_law_script"] (spLaw K) := by
  have F_law_cell := fun2_mk (st := s_law_cell) l_law_cell q_law_cell k_law_cell
  have F_law_mixed := fun2_mk (st := s_law_mixed) l_law_mixed q_law_mixed k_law_mixed
  have F_law_many_moments := fun2_mk (st := s_law_many_moments) l_law_many_moments q_law_many_moments k_law_many_moments
  have F_law_number := fun2_mk (st := s_law_number) l_law_number q_law_number k_law_number
  have F_law_set := fun2_mk (st := s_law_set) l_law_set q_law_set k_law_set
  have F_law_row := fun2_mk (st := s_law_row) l_law_row q_law_row k_law_row
  have F_law_pattern := fun2_mk (st := s_law_pattern) l_law_pattern q_law_pattern k_law_pattern
  have F_law_gap := fun2_mk (st := s_law_gap) l_law_gap q_law_gap k_law_gap
  have F_every_place := fun2_mk (st := s_every_place) l_every_place q_every_place k_every_place
  have F_open_places := fun2_mk (st := s_open_places) l_open_places q_open_places k_open_places
  have F_column := fun2_mk (st := s_column) l_column q_column k_column
  have F_places_above := fun2_mk (st := s_places_above) l_places_above q_places_above k_places_above
  have F_end_marks := fun2_mk (st := s_end_marks) l_end_marks q_end_marks k_end_marks
  have F_places := fun2_mk (st := s_places) l_places q_places k_places
  have F_law_near := fun2_mk (st := s_law_near) l_law_near q_law_near k_law_near
  have F_law_comes := fun2_mk (st := s_law_comes) l_law_comes q_law_comes k_law_comes
  have F_law_walked := fun2_mk (st := s_law_walked) l_law_walked q_law_walked k_law_walked
  have F_law_told := fun2_mk (st := s_law_told) l_law_told q_law_told k_law_told
  have F_law := fun2_mk (st := s_law) l_law q_law k_law
  have n_len := PySem.W.mg_none_of X G z_len
  have n_max := PySem.W.mg_none_of X G z_max
  have n_min := PySem.W.mg_none_of X G z_min
  have n_range := PySem.W.mg_none_of X G z_range
  have n_tuple := PySem.W.mg_none_of X G z_tuple
  have n_abs := PySem.W.mg_none_of X G z_abs
  have n_int := PySem.W.mg_none_of X G z_int
  have n_enumerate := PySem.W.mg_none_of X G z_enumerate
  have n_sum := PySem.W.mg_none_of X G z_sum
  have n_reversed := PySem.W.mg_none_of X G z_reversed
  have n_isinstance := PySem.W.mg_none_of X G z_isinstance
  have n_bool := PySem.W.mg_none_of X G z_bool
  have e := hfa.symm.trans (PySem.W.mg_of X G x_law)
  cases e
  have b__law_cell : Binds K _ ["_law_script", "_law_k"] [] := F_law_cell.bindsTo (P := fun fd => Binds K fd ["_law_script", "_law_k"] []) fun _ _ _ _ _ _ s us hk hl => ln2 (fun _ _ => .of_eq rfl) us hl
  have b__law_mixed : Binds K _ ["_law_cell_here", "_law_k"] [] := F_law_mixed.bindsTo (P := fun fd => Binds K fd ["_law_cell_here", "_law_k"] []) fun _ _ _ _ _ _ s us hk hl => ln2 (fun _ _ => .of_eq rfl) us hl
  have b__law_many_moments : Binds K _ ["_law_script"] [] := F_law_many_moments.bindsTo (P := fun fd => Binds K fd ["_law_script"] []) fun _ _ _ _ _ _ s us hk hl => ln1 (fun _ => .of_eq rfl) us hl
  have b__law_number : Binds K _ ["_law_script", "_law_k"] [] := F_law_number.bindsTo (P := fun fd => Binds K fd ["_law_script", "_law_k"] []) fun _ _ _ _ _ _ s us hk hl => ln2 (fun _ _ => .of_eq rfl) us hl
  have b__law_set : Binds K _ ["_law_mark", "_law_wares"] [] := F_law_set.bindsTo (P := fun fd => Binds K fd ["_law_mark", "_law_wares"] []) fun _ _ _ _ _ _ s us hk hl => ln2 (fun _ _ => .of_eq rfl) us hl
  have b__law_row : Binds K _ ["_law_script"] [] := F_law_row.bindsTo (P := fun fd => Binds K fd ["_law_script"] []) fun _ _ _ _ _ _ s us hk hl => ln1 (fun _ => .of_eq rfl) us hl
  have b__law_pattern : Binds K _ ["_law_number_here"] [] := F_law_pattern.bindsTo (P := fun fd => Binds K fd ["_law_number_here"] []) fun _ _ _ _ _ _ s us hk hl => ln1 (fun _ => .of_eq rfl) us hl
  have b__law_gap : Binds K _ ["_law_number_here", "_law_row_here"] [] := F_law_gap.bindsTo (P := fun fd => Binds K fd ["_law_number_here", "_law_row_here"] []) fun _ _ _ _ _ _ s us hk hl => ln2 (fun _ _ => .of_eq rfl) us hl
  have b_every_place : Binds K _ ["row"] [] := F_every_place.bindsTo (P := fun fd => Binds K fd ["row"] []) fun _ _ _ _ _ _ s us hk hl => ln1 (fun _ => .of_eq rfl) us hl
  have b_open_places : Binds K _ ["row", "ended", "gap"] [] := F_open_places.bindsTo (P := fun fd => Binds K fd ["row", "ended", "gap"] []) fun _ _ _ _ _ _ s us hk hl => ln3 (fun _ _ _ => .of_eq rfl) us hl
  have b_column : Binds K _ ["runs", "ware"] [] := F_column.bindsTo (P := fun fd => Binds K fd ["runs", "ware"] []) fun _ _ _ _ _ _ s us hk hl => ln2 (fun _ _ => .of_eq rfl) us hl
  have b_places_above : Binds K _ ["row", "some"] [] := F_places_above.bindsTo (P := fun fd => Binds K fd ["row", "some"] []) fun _ _ _ _ _ _ s us hk hl => ln2 (fun _ _ => .of_eq rfl) us hl
  have b_end_marks : Binds K _ ["row", "pattern", "gap"] [] := F_end_marks.bindsTo (P := fun fd => Binds K fd ["row", "pattern", "gap"] []) fun _ _ _ _ _ _ s us hk hl => ln3 (fun _ _ _ => .of_eq rfl) us hl
  have b_places : Binds K _ ["row", "pattern", "gap"] [] := F_places.bindsTo (P := fun fd => Binds K fd ["row", "pattern", "gap"] []) fun _ _ _ _ _ _ s us hk hl => ln3 (fun _ _ _ => BindsTo.of_defaults rfl (hk _ _ d_places) rfl rfl rfl) us hl
  have kb_places : KB K _ ["row", "pattern", "gap"] ["gap"] 2 1 := F_places.bindsTo (P := fun fd => KB K fd ["row", "pattern", "gap"] ["gap"] 2 1) fun _ _ _ _ _ _ => kb_mk (by decide) fun s us ws hk h1 h2 => match us, ws, h1, h2 with | [_, _], [_], _, _ => BindsTo.of_defaults rfl (hk _ _ d_places) rfl rfl rfl
  have bd_places_1 : Binds K _ ["row", "pattern", "gap"] [.none] := F_places.bindsTo (P := fun fd => Binds K fd ["row", "pattern", "gap"] [.none]) fun _ _ _ _ _ _ => bd_mk 2 rfl fun s us hk hl => match us, hl with | [_, _], _ => BindsTo.of_defaults rfl (hk _ _ d_places) rfl rfl rfl
  have dv_places_1 : Vals [V.non] [.none] := .cons rfl (.nil)
  have dd_places_1 : ∀ {H : Hp}, RepL K H [.non] [V.non] := fun {H} => RepL.cons (by simp only [Rep]) (RepL.nil)
  have b__law_near : Binds K _ ["_law_row_here", "_law_one", "_law_other", "_law_most"] [] := F_law_near.bindsTo (P := fun fd => Binds K fd ["_law_row_here", "_law_one", "_law_other", "_law_most"] []) fun _ _ _ _ _ _ s us hk hl => ln4 (fun _ _ _ _ => .of_eq rfl) us hl
  have b__law_comes : Binds K _ ["_law_row_here", "_law_pattern_here", "_law_most"] [] := F_law_comes.bindsTo (P := fun fd => Binds K fd ["_law_row_here", "_law_pattern_here", "_law_most"] []) fun _ _ _ _ _ _ s us hk hl => ln3 (fun _ _ _ => .of_eq rfl) us hl
  have b__law_walked : Binds K _ ["_law_row_here", "_law_pattern_here", "_law_most", "_law_found"] [] := F_law_walked.bindsTo (P := fun fd => Binds K fd ["_law_row_here", "_law_pattern_here", "_law_most", "_law_found"] []) fun _ _ _ _ _ _ s us hk hl => ln4 (fun _ _ _ _ => .of_eq rfl) us hl
  have b__law_told : Binds K _ ["_law_row_here", "_law_pattern_here", "_law_most"] [] := F_law_told.bindsTo (P := fun fd => Binds K fd ["_law_row_here", "_law_pattern_here", "_law_most"] []) fun _ _ _ _ _ _ s us hk hl => ln3 (fun _ _ _ => .of_eq rfl) us hl
  refine ⟨_, F_law.bindsTo (P := fun fd => ∀ (s : Shared) (v : Value), BindsTo s fd ⟨[v], []⟩ [("_law_script", v)]) (fun _ _ _ _ _ _ s v => .of_eq rfl), fun base _ _ => ?_⟩
  have o_law_cell := ok_law_cell (P := l.prog) (w := w) (mg := mg) (base := base) F_law_cell n_len
  have c__law_cell := Cal.mk o_law_cell (PySem.W.mg_of X G x_law_cell) k_law_cell
  have o_law_mixed := ok_law_mixed (P := l.prog) (w := w) (mg := mg) (base := base) F_law_mixed 
  have c__law_mixed := Cal.mk o_law_mixed (PySem.W.mg_of X G x_law_mixed) k_law_mixed
  have o_law_many_moments := ok_law_many_moments (P := l.prog) (w := w) (mg := mg) (base := base) F_law_many_moments c__law_cell b__law_cell c__law_mixed b__law_mixed n_max n_min n_len
  have c__law_many_moments := Cal.mk o_law_many_moments (PySem.W.mg_of X G x_law_many_moments) k_law_many_moments
  have o_law_number := ok_law_number (P := l.prog) (w := w) (mg := mg) (base := base) F_law_number c__law_cell b__law_cell c__law_mixed b__law_mixed n_max n_len
  have c__law_number := Cal.mk o_law_number (PySem.W.mg_of X G x_law_number) k_law_number
  have o_law_set := ok_law_set (P := l.prog) (w := w) (mg := mg) (base := base) F_law_set n_range n_tuple
  have c__law_set := Cal.mk o_law_set (PySem.W.mg_of X G x_law_set) k_law_set
  have o_law_row := ok_law_row (P := l.prog) (w := w) (mg := mg) (base := base) F_law_row c__law_many_moments b__law_many_moments c__law_number b__law_number c__law_cell b__law_cell c__law_set b__law_set n_range n_tuple
  have c__law_row := Cal.mk o_law_row (PySem.W.mg_of X G x_law_row) k_law_row
  have o_law_pattern := ok_law_pattern (P := l.prog) (w := w) (mg := mg) (base := base) F_law_pattern c__law_set b__law_set n_range n_tuple
  have c__law_pattern := Cal.mk o_law_pattern (PySem.W.mg_of X G x_law_pattern) k_law_pattern
  have o_law_gap := ok_law_gap (P := l.prog) (w := w) (mg := mg) (base := base) F_law_gap n_abs n_max n_len n_int
  have c__law_gap := Cal.mk o_law_gap (PySem.W.mg_of X G x_law_gap) k_law_gap
  have o_every_place := ok_every_place (P := l.prog) (w := w) (mg := mg) (base := base) F_every_place n_len
  have c_every_place := Cal.mk o_every_place (PySem.W.mg_of X G x_every_place) k_every_place
  have o_open_places := ok_open_places (P := l.prog) (w := w) (mg := mg) (base := base) F_open_places c_every_place b_every_place n_enumerate
  have c_open_places := Cal.mk o_open_places (PySem.W.mg_of X G x_open_places) k_open_places
  have o_column := ok_column (P := l.prog) (w := w) (mg := mg) (base := base) F_column n_sum n_enumerate
  have c_column := Cal.mk o_column (PySem.W.mg_of X G x_column) k_column
  have o_places_above := ok_places_above (P := l.prog) (w := w) (mg := mg) (base := base) F_places_above c_every_place b_every_place c_column b_column
  have c_places_above := Cal.mk o_places_above (PySem.W.mg_of X G x_places_above) k_places_above
  have o_end_marks := ok_end_marks (P := l.prog) (w := w) (mg := mg) (base := base) F_end_marks c_open_places b_open_places c_places_above b_places_above
  have c_end_marks := Cal.mk o_end_marks (PySem.W.mg_of X G x_end_marks) k_end_marks
  have o_places := ok_places (P := l.prog) (w := w) (mg := mg) (base := base) F_places c_end_marks b_end_marks n_len n_reversed n_tuple
  have c_places := Cal.mk o_places (PySem.W.mg_of X G x_places) k_places
  have o_law_near := ok_law_near (P := l.prog) (w := w) (mg := mg) (base := base) F_law_near 
  have c__law_near := Cal.mk o_law_near (PySem.W.mg_of X G x_law_near) k_law_near
  have o_law_comes := ok_law_comes (P := l.prog) (w := w) (mg := mg) (base := base) F_law_comes c__law_near b__law_near n_range n_len
  have c__law_comes := Cal.mk o_law_comes (PySem.W.mg_of X G x_law_comes) k_law_comes
  have o_law_walked := ok_law_walked (P := l.prog) (w := w) (mg := mg) (base := base) F_law_walked c__law_near b__law_near n_range n_len n_isinstance n_tuple n_bool n_int
  have c__law_walked := Cal.mk o_law_walked (PySem.W.mg_of X G x_law_walked) k_law_walked
  have o_law_told := ok_law_told (P := l.prog) (w := w) (mg := mg) (base := base) F_law_told c_places b_places bd_places_1 dv_places_1 dd_places_1 c__law_comes b__law_comes c__law_walked b__law_walked
  have c__law_told := Cal.mk o_law_told (PySem.W.mg_of X G x_law_told) k_law_told
  exact law_of (ok_law (P := l.prog) (w := w) (mg := mg) (base := base) F_law c__law_row b__law_row c__law_pattern b__law_pattern c__law_gap b__law_gap c__law_number b__law_number c_places b_places kb_places c__law_told b__law_told n_range n_len) hm
end My
open PySem PySem.W PyProof.Rows
set_option maxRecDepth 100000 in
set_option maxHeartbeats 0 in
theorem PySem.Challenge.cw_oftentogether_k62_places_holds : PySem.Challenge.rw_oftentogether_k62_places.Holds := by
  w_on; o_law; k_head; (case hw => w_witness2)
  k_fill
  letI : DL.Lam := ⟨[]⟩
  refine DL.walk63 rfl (l := PySem.Challenge.rw_oftentogether_k62_places) (k := 6) (x := "_law_script") rfl rfl ⟨rfl, by decide, by decide⟩ (fun w h Y => PySem.W.kIn_of Y) ?F
  case F =>
    intro w mg fa h KX G hmg
    refine' My.all_mk KX G hmg My.law_true ?x_law_cell ?l_law_cell ?q_law_cell ?k_law_cell ?x_law_mixed ?l_law_mixed ?q_law_mixed ?k_law_mixed ?x_law_many_moments ?l_law_many_moments ?q_law_many_moments ?k_law_many_moments ?x_law_number ?l_law_number ?q_law_number ?k_law_number ?x_law_set ?l_law_set ?q_law_set ?k_law_set ?x_law_row ?l_law_row ?q_law_row ?k_law_row ?x_law_pattern ?l_law_pattern ?q_law_pattern ?k_law_pattern ?x_law_gap ?l_law_gap ?q_law_gap ?k_law_gap ?x_every_place ?l_every_place ?q_every_place ?k_every_place ?x_open_places ?l_open_places ?q_open_places ?k_open_places ?x_column ?l_column ?q_column ?k_column ?x_places_above ?l_places_above ?q_places_above ?k_places_above ?x_end_marks ?l_end_marks ?q_end_marks ?k_end_marks ?x_places ?l_places ?q_places ?k_places ?d_places ?x_law_near ?l_law_near ?q_law_near ?k_law_near ?x_law_comes ?l_law_comes ?q_law_comes ?k_law_comes ?x_law_walked ?l_law_walked ?q_law_walked ?k_law_walked ?x_law_told ?l_law_told ?q_law_told ?k_law_told ?x_law ?l_law ?q_law ?k_law ?z_len ?z_max ?z_min ?z_range ?z_tuple ?z_abs ?z_int ?z_enumerate ?z_sum ?z_reversed ?z_isinstance ?z_bool
    (case x_law_cell => k_is)
    (case l_law_cell => k_is)
    (case q_law_cell => k_is)
    (case k_law_cell => k_is)
    (case x_law_mixed => k_is)
    (case l_law_mixed => k_is)
    (case q_law_mixed => k_is)
    (case k_law_mixed => k_is)
    (case x_law_many_moments => k_is)
    (case l_law_many_moments => k_is)
    (case q_law_many_moments => k_is)
    (case k_law_many_moments => k_is)
    (case x_law_number => k_is)
    (case l_law_number => k_is)
    (case q_law_number => k_is)
    (case k_law_number => k_is)
    (case x_law_set => k_is)
    (case l_law_set => k_is)
    (case q_law_set => k_is)
    (case k_law_set => k_is)
    (case x_law_row => k_is)
    (case l_law_row => k_is)
    (case q_law_row => k_is)
    (case k_law_row => k_is)
    (case x_law_pattern => k_is)
    (case l_law_pattern => k_is)
    (case q_law_pattern => k_is)
    (case k_law_pattern => k_is)
    (case x_law_gap => k_is)
    (case l_law_gap => k_is)
    (case q_law_gap => k_is)
    (case k_law_gap => k_is)
    (case x_every_place => k_is)
    (case l_every_place => k_is)
    (case q_every_place => k_is)
    (case k_every_place => k_is)
    (case x_open_places => k_is)
    (case l_open_places => k_is)
    (case q_open_places => k_is)
    (case k_open_places => k_is)
    (case x_column => k_is)
    (case l_column => k_is)
    (case q_column => k_is)
    (case k_column => k_is)
    (case x_places_above => k_is)
    (case l_places_above => k_is)
    (case q_places_above => k_is)
    (case k_places_above => k_is)
    (case x_end_marks => k_is)
    (case l_end_marks => k_is)
    (case q_end_marks => k_is)
    (case k_end_marks => k_is)
    (case x_places => k_is)
    (case l_places => k_is)
    (case q_places => k_is)
    (case k_places => k_is)
    (case d_places => k_is)
    (case x_law_near => k_is)
    (case l_law_near => k_is)
    (case q_law_near => k_is)
    (case k_law_near => k_is)
    (case x_law_comes => k_is)
    (case l_law_comes => k_is)
    (case q_law_comes => k_is)
    (case k_law_comes => k_is)
    (case x_law_walked => k_is)
    (case l_law_walked => k_is)
    (case q_law_walked => k_is)
    (case k_law_walked => k_is)
    (case x_law_told => k_is)
    (case l_law_told => k_is)
    (case q_law_told => k_is)
    (case k_law_told => k_is)
    (case x_law => k_is)
    (case l_law => k_is)
    (case q_law => k_is)
    (case k_law => k_is)
    (case z_len => k_is)
    (case z_max => k_is)
    (case z_min => k_is)
    (case z_range => k_is)
    (case z_tuple => k_is)
    (case z_abs => k_is)
    (case z_int => k_is)
    (case z_enumerate => k_is)
    (case z_sum => k_is)
    (case z_reversed => k_is)
    (case z_isinstance => k_is)
    (case z_bool => k_is)
