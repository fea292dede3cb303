import PyProof.Rows.All
import Wide.All
import OpenK.AllK
import Wide.FinOn
import Lean
import PyProof.EqAt
import PyProof.EqKinds
import PyProof.TupleCall
import PySem.Challenge.RW_heapwords_k12_whole_heaps_of_a_length
set_option Elab.async false
set_option linter.all false
set_option maxRecDepth 100000
/-! THE HAND LAYER, for ints, bools, texts, own classes, LISTS and tuples (index, slices, in, append, pop ..), calls, loops. Paste it whole ahead of your own text; what your proof does not reach may be deleted. -/
namespace L2
open PySem PySem.Spec PyProof.Rows

/-- a key: an int or a str -/
abbrev Key := Sum Int Str
def keyIs : Key → Value → Bool
  | .inl k, v => Value.isInt k v
  | .inr x, v => Value.isStrOf x v
def keyH (w : World) : Key → Int
  | .inl k => hashInt k
  | .inr x => hashStr w x
theorem keyIs_shape : ∀ {k : Key} {v : Value}, keyIs k v = true → (∃ i t, k = Sum.inl i ∧ v = Value.int i t) ∨ (∃ x t, k = Sum.inr x ∧ v = Value.str x t)
  | .inl i, v, h => by
    obtain ⟨t, e⟩ := Value.isInt_shape (k := i) (v := v) h
    exact .inl ⟨i, t, rfl, e⟩
  | .inr x, v, h => by
    obtain ⟨t, e⟩ := Value.isStrOf_shape (x := x) (v := v) h
    exact .inr ⟨x, t, rfl, e⟩
theorem keyIs_int (i : Int) (t : Tok) : keyIs (.inl i) (.int i t) = true := by simp [keyIs, Value.isInt]
theorem keyIs_str (x : Str) (t : Tok) : keyIs (.inr x) (.str x t) = true := by simp [keyIs, Value.isStrOf]
theorem key_ll (a b : Int) : decide ((Sum.inl a : Key) = Sum.inl b) = (a == b) := by
  by_cases e : a = b
  · subst e; simp
  · have h : ¬ (Sum.inl a : Key) = Sum.inl b := fun q => e (Sum.inl.inj q)
    rw [decide_eq_false h]
    exact (beq_eq_false_iff_ne.mpr e).symm
theorem key_rr (a b : Str) : decide ((Sum.inr a : Key) = Sum.inr b) = decide (a = b) := by
  by_cases e : a = b
  · subst e; simp
  · have h : ¬ (Sum.inr a : Key) = Sum.inr b := fun q => e (Sum.inr.inj q)
    rw [decide_eq_false h, decide_eq_false e]
theorem key_lr (a : Int) (b : Str) : decide ((Sum.inl a : Key) = Sum.inr b) = false := decide_eq_false (fun q => nomatch q)
theorem key_rl (a : Str) (b : Int) : decide ((Sum.inr a : Key) = Sum.inl b) = false := decide_eq_false (fun q => nomatch q)

def mixKind (prog : Program) (w : World) : PySem.KeyKind prog w Key where
  is := keyIs
  hash := keyH w
  inj := fun v a b ha hb => by
    rcases keyIs_shape ha with ⟨i, t, rfl, rfl⟩ | ⟨x, t, rfl, rfl⟩
    · rcases keyIs_shape hb with ⟨j, u, rfl, e⟩ | ⟨y, u, rfl, e⟩
      · injection e with e1 _; rw [e1]
      · exact nomatch e
    · rcases keyIs_shape hb with ⟨j, u, rfl, e⟩ | ⟨y, u, rfl, e⟩
      · exact nomatch e
      · injection e with e1 _; rw [e1]
  byValue := fun k v h => by
    rcases keyIs_shape h with ⟨i, t, rfl, rfl⟩ | ⟨x, t, rfl, rfl⟩ <;> rfl
  pyHash := fun hv h => by
    rcases keyIs_shape hv with ⟨i, t, rfl, rfl⟩ | ⟨x, t, rfl, rfl⟩
    · exact wpAny_pyHash_int h
    · exact wpAny_pyHash_str h
  eqBool := fun hu hv h => by
    rcases keyIs_shape hu with ⟨i, t, rfl, rfl⟩ | ⟨x, t, rfl, rfl⟩
    · rcases keyIs_shape hv with ⟨j, u, rfl, rfl⟩ | ⟨y, u, rfl, rfl⟩
      · rw [key_ll] at h; exact wpAny_eqBool_int h
      · rw [key_lr] at h; exact SeqAt.EqAt.int_str i t y u _ _ _ _ h
    · rcases keyIs_shape hv with ⟨j, u, rfl, rfl⟩ | ⟨y, u, rfl, rfl⟩
      · rw [key_rl] at h; exact SeqAt.EqAt.str_int x t j u _ _ _ _ h
      · rw [key_rr] at h; exact wpAny_eqBool_str h
  «strs» := fun k x t v h => by
    rcases keyIs_shape h with ⟨i, u, rfl, e⟩ | ⟨y, u, rfl, e⟩
    · exact nomatch e
    · injection e with e1 _
      subst e1
      cases v <;> rfl

theorem mixKind_is (prog : Program) (w : World) (k : Key) (v : Value) : (mixKind prog w).is k v = keyIs k v := rfl
theorem mixKind_int (prog : Program) (w : World) (i : Int) (t : Tok) : (mixKind prog w).is (.inl i) (.int i t) = true := keyIs_int i t
theorem mixKind_str (prog : Program) (w : World) (x : Str) (t : Tok) : (mixKind prog w).is (.inr x) (.str x t) = true := keyIs_str x t
end L2

namespace L2
open PySem PySem.Spec PyProof.Rows

/-- a value, without the heap -/
inductive V where
  | non | bl (b : Bool) | int (i : Int) | str (x : Str) | byt (b : Array UInt8) | flt (b : UInt64) | ref (a : Addr) | ty (n : String) | old (x : Str) (a n : Nat)
  deriving DecidableEq

def RelV : V → Value → Prop
  | .non, u => u = Value.none
  | .bl b, u => u = Value.bool b
  | .int i, u => ∃ t, u = Value.int i t
  | .str x, u => ∃ t, u = Value.str x t
  | .byt b, u => ∃ t, u = Value.bytes b t
  | .flt b, u => ∃ t, u = Value.float b t
  | .ref a, u => u = Value.ref a
  | .ty n, u => u = Value.type n
  | .old x a n, u => ∃ t, u = Value.str x t ∧ a ≤ t ∧ t < n

abbrev Vals : List V → List Value → Prop := Paired RelV
theorem Vals.length {xs : List V} {us : List Value} (r : Vals xs us) : xs.length = us.length := Paired.length r
theorem Vals.get : ∀ {xs : List V} {us : List Value} {i : Nat} {x : V}, Vals xs us → xs[i]? = some x → ∃ u, us[i]? = some u ∧ RelV x u
  | _, _, _, _, .nil, e => by simp at e
  | _, _, 0, _, .cons r _, e => by simp at e; subst e; exact ⟨_, rfl, r⟩
  | _, _, i + 1, x, .cons _ t, e => by
    obtain ⟨u, h1, h2⟩ := Vals.get (i := i) (x := x) t (by simpa using e)
    exact ⟨u, by simpa using h1, h2⟩
theorem Vals.set {x : V} {u : Value} (r : RelV x u) : ∀ {xs : List V} {us : List Value} (i : Nat), Vals xs us → Vals (xs.set i x) (us.set i u)
  | _, _, _, .nil => .nil
  | _, _, 0, .cons _ t => .cons r t
  | _, _, i + 1, .cons q t => .cons q (Vals.set r i t)
theorem Vals.append : ∀ {xs ys : List V} {us ws : List Value}, Vals xs us → Vals ys ws → Vals (xs ++ ys) (us ++ ws)
  | _, _, _, _, .nil, s => s
  | _, _, _, _, .cons r t, s => .cons r (Vals.append t s)
theorem Vals.take : ∀ {xs : List V} {us : List Value} (n : Nat), Vals xs us → Vals (xs.take n) (us.take n)
  | _, _, 0, _ => .nil
  | _, _, _ + 1, .nil => .nil
  | _, _, n + 1, .cons r t => .cons r (Vals.take n t)
theorem Vals.drop : ∀ {xs : List V} {us : List Value} (n : Nat), Vals xs us → Vals (xs.drop n) (us.drop n)
  | _, _, 0, r => r
  | _, _, _ + 1, .nil => .nil
  | _, _, n + 1, .cons _ t => Vals.drop n t
theorem Vals.none_of : ∀ {xs : List V} {us : List Value} {i : Nat}, Vals xs us → xs[i]? = none → us[i]? = none := fun {xs us i} r e => by
  have h1 := r.length
  have h2 : xs.length ≤ i := List.getElem?_eq_none_iff.mp e
  exact List.getElem?_eq_none_iff.mpr (by omega)

def RelO : Option V → Option Value → Prop
  | some v, some u => RelV v u
  | none, none => True
  | _, _ => False
def KV {κ : Type} : List (κ × V) → List (κ × Value) → Prop := Paired fun (p : κ × V) (q : κ × Value) => p.1 = q.1 ∧ RelV p.2 q.2

/-- a key of a dict (00_mix): an int or a text -/
def kV : Key → V
  | .inl i => .int i
  | .inr x => .str x

/-- what stands at a tracked address -/
inductive HO where
  /-- a list -/
  | lst (xs : List V)
  /-- a tuple (never changes) -/
  | tup (xs : List V)
  /-- a dict whose keys are ints and texts; one whose keys are tuples of ints and texts (the empty one is both) -/
  | dK (kvs : List (Key × V)) | dT (kvs : List (List Key × V))
  /-- a set of ints: its members, its size -/
  | set (S : Int → Bool) (n : Nat)
  /-- an instance of the class at C, its dict at dx, its attributes -/
  | ins (C dx : Addr) (fs : List (Str × V))
  /-- the dict of the instance at x -/
  | own (x : Addr)
  /-- the dict of an exception -/
  | xd (fs : List (Str × V))
  /-- a bound method, f of x -/
  | met (f x : Addr)
  /-- a range object lo, lo + 1, .. below hi -/
  | rng (lo hi : Int)
  /-- a thing that is known to the object (the script; a dict while a loop walks it): read, never written while it is so -/
  | frz (o : Obj) (u : HO)
  /-- a code object's table -/
  | tbl (ps : Array Value)
  /-- any other thing, by what is true of its one object (a def of one's own: SetO a S n := HO.ext fun h => ..) -/
  | ext (φ : Heap → Prop)

/-- the tracked objects, and a number of tokens that were drawn already -/
structure Hp where
  fn : Addr → Option HO
  clk : Nat
instance : CoeFun Hp (fun _ => Addr → Option HO) := ⟨Hp.fn⟩
def upd (H : Hp) (a : Addr) (o : HO) : Hp := ⟨fun b => if b = a then some o else H b, H.clk⟩
theorem upd_fn {H : Hp} {a b : Addr} {o : HO} : upd H a o b = if b = a then some o else H b := rfl
def Bar (H : Hp) (g : Array GenState) (t : Nat) : Prop := AllBare g ∧ H.clk ≤ t
theorem upd_same {H : Hp} {a : Addr} {o : HO} : upd H a o a = some o := by rw [upd_fn, if_pos rfl]
theorem upd_ne {H : Hp} {a b : Addr} {o : HO} (h : b ≠ a) : upd H a o b = H b := by rw [upd_fn, if_neg h]
theorem upd_upd {H : Hp} {a : Addr} {o u : HO} : upd (upd H a o) a u = upd H a u := by
  unfold upd
  congr 1
  funext b
  show (if b = a then some u else if b = a then some o else H b) = if b = a then some u else H b
  split <;> rfl
/-- two objects of different content stand apart -/
theorem ne_of {H : Hp} {a b : Addr} {o u : HO} (h : H a = some o) (h' : H b = some u) (d : o ≠ u) : a ≠ b := by
  intro e; subst e; rw [h] at h'; exact d (Option.some.inj h')
theorem ne_of_none {H : Hp} {a b : Addr} {o : HO} (h : H a = some o) (h' : H b = none) : a ≠ b := by
  intro e; subst e; rw [h] at h'; cases h'

section
variable (P : Program) (w : World)
def ObjOk (H : Hp) (h : Heap) (a : Addr) : HO → Prop
  | .lst xs => xs.length ≤ sizeLine ∧ ∃ (its : List Value) (n : Nat), Vals xs its ∧ h.get? a = some { cls := .type "list", data := .seq its.toArray n }
  | .tup xs => xs.length ≤ sizeLine ∧ ∃ its : List Value, Vals xs its ∧ IsTup h a its.toArray
  | .dK kvs => kvs.length ≤ sizeLine ∧ (a == sysModules) = false ∧ ∃ vs, KV kvs vs ∧ h.DictOf (mixKind P w) a vs
  | .dT kvs => kvs.length ≤ sizeLine ∧ (a == sysModules) = false ∧ ∃ xs : List (List Key × Addr × Value),
      Paired (fun (p : List Key × V) (q : List Key × Addr × Value) => p.1 = q.1 ∧ H q.2.1 = some (.tup (p.1.map kV)) ∧ RelV p.2 q.2.2) kvs xs ∧
      ∃ o es ep, h.get? a = some o ∧ o.ExactDict ∧ o.data = .dict es ep ∧ es.toList = xs.map (entryOfKey (tupleKind (mixKind P w))) ∧ (xs.map (·.1)).Nodup
  | .set S n => h.SetOf (intKind P w) a S n
  | .ins C dx fs => H dx = some (.own a) ∧ fs.length ≤ 1000 ∧ dx ≠ a ∧ h.get? a = some (PySem.W.instObj C dx) ∧
      ∃ mA, h.Ns1 dx mA ∧ (∀ f, RelO (fs.lookup f) (mA f)) ∧ PySem.Within mA (fs.map (·.1))
  | .own _ => ∃ o, h.get? a = some o
  | .xd fs => ∃ mA, h.Ns1 a mA ∧ ∀ f, RelO (fs.lookup f) (mA f)
  | .rng lo hi => ∃ t u v, h.get? a = some { cls := .type "range", data := .fields #[.int lo t, .int hi u, .int 1 v] }
  | .frz o u => h.get? a = some o ∧ ObjOk H h a u
  | .tbl ps => h.get? a = some { cls := .none, data := .fields ps }
  | .met f x => h.get? a = some (PySem.W.methodObj (.ref f) (.ref x))
  | .ext φ => φ h ∧ (∃ o, h.get? a = some o) ∧ ∀ h1 h2 : Heap, φ h1 → (∀ o, h1.get? a = some o → h2.get? a = some o) → φ h2
/-- the abstract heap is held -/
def HOk (H : Hp) (h : Heap) : Prop := ∀ a o, H a = some o → ObjOk P w H h a o
end

section
variable {P : Program} {w : World} {H H' : Hp} {h h' : Heap} {a : Addr} {o : HO}
theorem ObjOk.lt (x : ObjOk P w H h a o) : a < h.objs.size := by
  cases o with
  | lst xs => obtain ⟨_, _, _, _, e⟩ := x; exact Heap.lt_size e
  | tup xs => obtain ⟨_, _, _, p⟩ := x; exact p.lt
  | dK kvs => obtain ⟨_, _, _, _, o, _, _, e, _⟩ := x; exact Heap.lt_size e
  | dT kvs => obtain ⟨_, _, _, _, o, _, _, e, _⟩ := x; exact Heap.lt_size e
  | set S n => obtain ⟨o, _, _, _, e, _⟩ := x; exact Heap.lt_size e
  | ins C dx fs => obtain ⟨_, _, _, e, _⟩ := x; exact Heap.lt_size e
  | own y => obtain ⟨_, e⟩ := x; exact Heap.lt_size e
  | xd fs => obtain ⟨_, ⟨_, _, _, e, _⟩, _⟩ := x; exact Heap.lt_size e
  | rng lo hi => obtain ⟨_, _, _, e⟩ := x; exact Heap.lt_size e
  | frz ob u => obtain ⟨e, _⟩ := x; exact Heap.lt_size e
  | tbl ps => exact Heap.lt_size (show h.get? a = some _ from x)
  | met f y => exact Heap.lt_size (show h.get? a = some _ from x)
  | ext φ => obtain ⟨_, ⟨_, e⟩, _⟩ := x; exact Heap.lt_size e
theorem Paired.mapP {α β : Type} {F G : α → β → Prop} : ∀ {l₁ : List α} {l₂ : List β}, Paired F l₁ l₂ → (∀ a b, F a b → G a b) → Paired G l₁ l₂
  | _, _, .nil, _ => .nil
  | _, _, .cons r t, f => .cons (f _ _ r) (Paired.mapP t f)
theorem Paired.imp' {α β : Type} {F G : α → β → Prop} (f : ∀ a b, F a b → G a b) {l₁ : List α} {l₂ : List β} (r : Paired F l₁ l₂) : Paired G l₁ l₂ := Paired.mapP r f
/-- what an object's description leans on: its own object, its own dict, the tuples -/
theorem ObjOk.stay (x : ObjOk P w H h a o) (k : ∀ b u, (b = a ∨ H b = some (.own a)) → h.get? b = some u → h'.get? b = some u)
    (ho : ∀ b, H b = some (.own a) → H' b = some (.own a)) (ht : ∀ b xs, H b = some (.tup xs) → H' b = some (.tup xs)) : ObjOk P w H' h' a o := by
  induction o with
  | lst xs => obtain ⟨z, its, n, r, e⟩ := x; exact ⟨z, its, n, r, k _ _ (.inl rfl) e⟩
  | tup xs => obtain ⟨z, its, r, ob, e, c⟩ := x; exact ⟨z, its, r, ob, k _ _ (.inl rfl) e, c⟩
  | dK kvs => obtain ⟨z, y, vs, r, ob, es, ep, e, c⟩ := x; exact ⟨z, y, vs, r, ob, es, ep, k _ _ (.inl rfl) e, c⟩
  | dT kvs =>
    obtain ⟨z, y, xs, r, ob, es, ep, e, c⟩ := x
    exact ⟨z, y, xs, Paired.mapP r fun p q z => ⟨z.1, ht _ _ z.2.1, z.2.2⟩, ob, es, ep, k _ _ (.inl rfl) e, c⟩
  | set S n => obtain ⟨ob, es, ep, t, e, c⟩ := x; exact ⟨ob, es, ep, t, k _ _ (.inl rfl) e, c⟩
  | ins C dx fs =>
    obtain ⟨d, z, ne, e, mA, ⟨od, es, ep, e2, c⟩, r⟩ := x
    exact ⟨ho _ d, z, ne, k _ _ (.inl rfl) e, mA, ⟨od, es, ep, k _ _ (.inr d) e2, c⟩, r⟩
  | own y => obtain ⟨ob, e⟩ := x; exact ⟨ob, k _ _ (.inl rfl) e⟩
  | xd fs => obtain ⟨mA, ⟨od, es, ep, e, c⟩, r⟩ := x; exact ⟨mA, ⟨od, es, ep, k _ _ (.inl rfl) e, c⟩, r⟩
  | rng lo hi => obtain ⟨t, u, v, e⟩ := x; exact ⟨t, u, v, k _ _ (.inl rfl) e⟩
  | frz ob u ih => obtain ⟨e, q⟩ := x; exact ⟨k _ _ (.inl rfl) e, ih q⟩
  | tbl ps =>
    have e : h.get? a = some { cls := .none, data := .fields ps } := x
    show h'.get? a = some { cls := .none, data := .fields ps }
    exact k a _ (.inl rfl) e
  | met f y =>
    have e : h.get? a = some (PySem.W.methodObj (.ref f) (.ref y)) := x
    show h'.get? a = some (PySem.W.methodObj (.ref f) (.ref y))
    exact k a _ (.inl rfl) e
  | ext φ => obtain ⟨p, ⟨o, e⟩, st⟩ := x; exact ⟨st _ _ p fun o q => k _ _ (.inl rfl) q, ⟨o, k _ _ (.inl rfl) e⟩, st⟩
theorem HOk.lt (x : HOk P w H h) (e : H a = some o) : a < h.objs.size := (x a o e).lt
theorem HOk.fresh (x : HOk P w H h) (e : h.objs.size ≤ a) : H a = none := by
  cases q : H a with
  | none => rfl
  | some u => exact absurd (Nat.lt_of_lt_of_le (x.lt q) e) (Nat.lt_irrefl _)
/-- every object of the heap is kept -/
theorem HOk.kept (x : HOk P w H h) (k : ∀ b u, h.get? b = some u → h'.get? b = some u) : HOk P w H h' := fun a o e =>
  (x a o e).stay (fun b u _ q => k b u q) (fun _ q => q) fun _ _ q => q
/-- a new object is laid and tracked -/
theorem HOk.laid (x : HOk P w H h) (k : ∀ b u, h.get? b = some u → h'.get? b = some u) (hp : h.objs.size ≤ a) (new : ObjOk P w (upd H a o) h' a o) : HOk P w (upd H a o) h' := fun b u e => by
  have hn := x.fresh hp
  by_cases hb : b = a
  · subst hb; rw [upd_same] at e; cases e; exact new
  · rw [upd_ne hb] at e
    exact (x b u e).stay (fun c v _ q => k c v q) (fun c q => by rw [upd_ne (ne_of_none q hn)]; exact q) fun c xs q => by rw [upd_ne (ne_of_none q hn)]; exact q
end

/-- what may be read as u: it is u, or a known u -/
def Rd (H : Hp) (a : Addr) (u : HO) : Prop := H a = some u ∨ ∃ o, H a = some (.frz o u)
theorem Rd.of {H : Hp} {a : Addr} {u : HO} (h : H a = some u) : Rd H a u := .inl h
theorem Rd.ok {P : Program} {w : World} {H : Hp} {h : Heap} {a : Addr} {u : HO} (r : Rd H a u) (x : HOk P w H h) : ObjOk P w H h a u := by
  rcases r with r | ⟨o, r⟩
  · exact x a u r
  · obtain ⟨_, q⟩ := x a _ r
    exact q
/-- what may be written -/
def Mut : Option HO → Prop
  | some (.lst _) => True
  | some (.dK _) => True
  | some (.dT _) => True
  | some (.set _ _) => True
  | some (.ins _ _ _) => True
  | some (.ext _) => True
  | _ => False
section
variable {P : Program} {w : World} {H : Hp} {h h' : Heap} {x e : Addr} {o' : HO}
/-- the object at e is changed: x itself, or the dict of the instance x -/
theorem HOk.write (ok : HOk P w H h) (mu : Mut (H x)) (he : e = x ∨ H e = some (.own x)) (k : ∀ b u, b ≠ e → h.get? b = some u → h'.get? b = some u) (heo : ∃ u, h'.get? e = some u)
    (new : ObjOk P w (upd H x o') h' x o') : HOk P w (upd H x o') h' := fun b u q => by
  have nown : ∀ c y, H c = some (.own y) → c ≠ x := fun c y r z => by subst z; rw [r] at mu; exact mu
  have ntup : ∀ c xs, H c = some (.tup xs) → c ≠ x := fun c xs r z => by subst z; rw [r] at mu; exact mu
  by_cases hb : b = x
  · subst hb; rw [upd_same] at q; cases q; exact new
  · rw [upd_ne hb] at q
    by_cases hbe : b = e
    · have q' : H b = some (.own x) := by
        rcases he with z | z
        · exact absurd (hbe.trans z) hb
        · rw [hbe]; exact z
      rw [q] at q'; cases q'
      obtain ⟨v, hv⟩ := heo
      exact ⟨v, by rw [hbe]; exact hv⟩
    · refine (ok b u q).stay (fun c v hc r => k c v ?_ r) (fun c r => by rw [upd_ne (nown c b r)]; exact r) fun c xs r => by rw [upd_ne (ntup c xs r)]; exact r
      rcases hc with rfl | hc
      · exact hbe
      · rintro rfl
        rcases he with z | z
        · exact nown c b hc z
        · rw [hc] at z; cases z; exact hb rfl
end

/-! ### kept unless tracked; of the frames at fs (the callers') the slots may change (an exception that passes writes there); of the records at ex (iterators) nothing is said -/
structure Un (fs ex : List Addr) (H H' : Hp) (h h' : Heap) : Prop where
  keep : ∀ b o, h.get? b = some o → H b = none → b ∉ fs → b ∉ ex → h'.get? b = some o
  slot : ∀ b o, h.get? b = some o → H b = none → b ∈ fs → b ∉ ex → ∃ sl, h'.get? b = some { o with slots := sl }
  free : ∀ b o, h.get? b = some o → H b = none → b ∉ ex → H' b = none
  there : ∀ b o, h.get? b = some o → b ∉ ex → ∃ o', h'.get? b = some o'
  tups : ∀ b xs, H b = some (.tup xs) → H' b = some (.tup xs)
  frzs : ∀ b o u, H b = some (.frz o u) → H' b = some (.frz o u)
  tbls : ∀ b ps, H b = some (.tbl ps) → ∃ more, H' b = some (.tbl (ps ++ more))
section
variable {fs fs' ex ex' : List Addr} {H H1 H2 : Hp} {h h1 h2 h' : Heap} {a x e : Addr} {o : HO}
theorem Un.any (u : Un fs ex H H1 h h1) {b : Addr} {ob : Obj} (q : h.get? b = some ob) (n : H b = none) (hx : b ∉ ex) : ∃ sl, h1.get? b = some { ob with slots := sl } := by
  by_cases hb : b ∈ fs
  · exact u.slot b ob q n hb hx
  · exact ⟨ob.slots, u.keep b ob q n hb hx⟩
theorem Un.trans (a : Un fs ex H H1 h h1) (b : Un fs ex H1 H2 h1 h2) : Un fs ex H H2 h h2 where
  keep := fun c ob q n hc hx => b.keep c ob (a.keep c ob q n hc hx) (a.free c ob q n hx) hc hx
  slot := fun c ob q n hc hx => by
    obtain ⟨sl, e1⟩ := a.slot c ob q n hc hx
    obtain ⟨sl', e2⟩ := b.slot c _ e1 (a.free c ob q n hx) hc hx
    exact ⟨sl', e2⟩
  free := fun c ob q n hx => by
    obtain ⟨o', e1⟩ := a.there c ob q hx
    exact b.free c o' e1 (a.free c ob q n hx) hx
  there := fun c ob q hx => by
    obtain ⟨o', e1⟩ := a.there c ob q hx
    exact b.there c o' e1 hx
  tups := fun c xs q => b.tups c xs (a.tups c xs q)
  frzs := fun c ob xs q => b.frzs c ob xs (a.frzs c ob xs q)
  tbls := fun c ps q => by
    obtain ⟨m1, e1⟩ := a.tbls c ps q
    obtain ⟨m2, e2⟩ := b.tbls c _ e1
    exact ⟨m1 ++ m2, by rw [e2, Array.append_assoc]⟩
theorem Un.kept (k : ∀ b u, h.get? b = some u → h'.get? b = some u) : Un fs ex H H h h' :=
  ⟨fun b ob q _ _ _ => k b ob q, fun b ob q _ _ _ => ⟨ob.slots, k b ob q⟩, fun _ _ _ n _ => n, fun b ob q _ => ⟨ob, k b ob q⟩, fun _ _ q => q, fun _ _ _ q => q, fun _ ps q => ⟨#[], by rw [q]; simp⟩⟩
theorem Un.refl : Un fs ex H H h h := Un.kept fun _ _ q => q
theorem Un.laid (k : ∀ b u, h.get? b = some u → h'.get? b = some u) (hp : h.objs.size ≤ a) (hn : H a = none) : Un fs ex H (upd H a o) h h' where
  keep := fun b u q _ _ _ => k b u q
  slot := fun b u q _ _ _ => ⟨u.slots, k b u q⟩
  free := fun b u q n _ => by rw [upd_ne (Nat.ne_of_lt (Nat.lt_of_lt_of_le (Heap.lt_size q) hp))]; exact n
  there := fun b u q _ => ⟨u, k b u q⟩
  tups := fun b xs q => by rw [upd_ne (ne_of_none q hn)]; exact q
  frzs := fun b u xs q => by rw [upd_ne (ne_of_none q hn)]; exact q
  tbls := fun b ps q => ⟨#[], by rw [upd_ne (ne_of_none q hn), q]; simp⟩
theorem Un.write (mu : Mut (H x)) (he : e = x ∨ H e = some (.own x)) (k : ∀ b u, b ≠ e → h.get? b = some u → h'.get? b = some u) (heo : ∃ u, h'.get? e = some u) : Un fs ex H (upd H x o) h h' := by
  have hx : ∀ b, H b = none → b ≠ x := fun b n z => by subst z; rw [n] at mu; exact mu
  have hb : ∀ b, H b = none → b ≠ e := fun b n z => by
    subst z
    rcases he with r | r
    · exact hx b n r
    · rw [n] at r; cases r
  have hm : ∀ b u, H b = some u → ¬ Mut (some u) → b ≠ x := fun b u q nm z => by subst z; rw [q] at mu; exact nm mu
  refine ⟨fun b u q n _ _ => k b u (hb b n) q, fun b u q n _ _ => ⟨u.slots, k b u (hb b n) q⟩, fun b u q n _ => by rw [upd_ne (hx b n)]; exact n, fun b u q _ => ?_,
    fun b xs q => by rw [upd_ne (hm b _ q fun z => z)]; exact q, fun b u xs q => by rw [upd_ne (hm b _ q fun z => z)]; exact q, fun b ps q => ⟨#[], by rw [upd_ne (hm b _ q fun z => z), q]; simp⟩⟩
  by_cases hbe : b = e
  · subst hbe; exact heo
  · exact ⟨u, k b u hbe q⟩
theorem Un.mono (u : Un fs ex H H1 h h1) (hs : ∀ b ∈ fs, b ∈ fs') (hx : ∀ b ∈ ex, b ∈ ex') : Un fs' ex' H H1 h h1 :=
  ⟨fun b ob q n hb he => u.keep b ob q n (fun z => hb (hs b z)) fun z => he (hx b z), fun _ _ q n _ he => u.any q n fun z => he (hx _ z), fun b ob q n he => u.free b ob q n fun z => he (hx b z), fun b ob q he => u.there b ob q fun z => he (hx b z), u.tups, u.frzs, u.tbls⟩
end

/-! ### the heap without what is tracked -/
def trk (h : Heap) (H : Hp) : List Addr := (List.range h.objs.size).filter fun a => (H a).isSome
def hidT (h : Heap) (H : Hp) : Heap := PySem.W.hideAll h (trk h H)
theorem hidT_size (h : Heap) (H : Hp) : (hidT h H).objs.size = h.objs.size := PySem.W.hideAll_size _ _
theorem hidT_get {h : Heap} {H : Hp} {b : Addr} {o : Obj} (e : h.get? b = some o) (n : H b = none) : (hidT h H).get? b = some o :=
  PySem.W.hideAll_get _ e fun hm => by
    have q : (H b).isSome = true := (List.mem_filter.mp hm).2
    rw [n] at q; simp at q
theorem of_hidT {h : Heap} {H : Hp} {b : Addr} {o : Obj} (e : (hidT h H).get? b = some o) : h.get? b = some o ∧ H b = none := by
  have e' : h.get? b = some o := PySem.W.of_hideAll (trk h H) e
  refine ⟨e', ?_⟩
  cases q : H b with
  | none => rfl
  | some x =>
    have hm : b ∈ trk h H := List.mem_filter.mpr ⟨List.mem_range.mpr (Heap.lt_size e'), by simp [q]⟩
    have z : (hidT h H).get? b = none := PySem.W.hideAll_none (trk h H) hm
    rw [z] at e; cases e

/-! ### OpenK's ledger, filled with every new object but one -/
def allNews (g h : Heap) (L : Addr) : List (Addr × Obj) := (List.range h.objs.size).filterMap fun a => if a = L ∨ (g.get? a).isSome = true then none else (h.get? a).map fun o => (a, o)
theorem mem_allNews {g h : Heap} {L a : Addr} {o : Obj} (h1 : a ≠ L) (h2 : g.get? a = none) (h3 : h.get? a = some o) : (a, o) ∈ allNews g h L :=
  List.mem_filterMap.mpr ⟨a, List.mem_range.mpr (Heap.lt_size h3), by simp [h1, h2, h3]⟩
theorem of_mem_allNews {g h : Heap} {L : Addr} {p : Addr × Obj} (hp : p ∈ allNews g h L) : p.1 ≠ L ∧ g.get? p.1 = none ∧ h.get? p.1 = some p.2 := by
  obtain ⟨b, _, e⟩ := List.mem_filterMap.mp hp
  split at e
  · cases e
  · rename_i hn
    cases q : h.get? b with
    | none => rw [q] at e; simp at e
    | some u =>
      rw [q] at e
      simp only [Option.map_some, Option.some.injEq] at e
      subst e
      refine ⟨fun z => hn (.inl z), ?_, q⟩
      show g.get? b = none
      cases r : g.get? b with
      | none => rfl
      | some v => exact (hn (.inr (by simp [r]))).elim
def rest (g h : Heap) (L d : Addr) : List (Addr × Obj) := (allNews g h L).filter fun p => decide (p.1 ≠ d)
theorem rest_ne {g h : Heap} {L d : Addr} : ∀ p ∈ rest g h L d, p.1 ≠ d := fun p hp => of_decide_eq_true (List.mem_filter.mp hp).2
theorem mem_rest {g h : Heap} {L d a : Addr} {o : Obj} (h1 : a ≠ L) (h2 : g.get? a = none) (h3 : h.get? a = some o) (h4 : a ≠ d) : (a, o) ∈ rest g h L d :=
  List.mem_filter.mpr ⟨mem_allNews h1 h2 h3, decide_eq_true h4⟩
theorem news_all {g h : Heap} {L : Addr} : News g L h (allNews g h L) := fun p hp => let ⟨a, b, c⟩ := of_mem_allNews hp; ⟨c, a, b⟩
theorem news_at {g h : Heap} {L d : Addr} {o : Obj} (h1 : d ≠ L) (h2 : g.get? d = none) (h3 : h.get? d = some o) : News g L h ((d, o) :: rest g h L d) := fun p hp => by
  rcases List.mem_cons.mp hp with rfl | hp
  · exact ⟨h3, h1, h2⟩
  · exact news_all p (List.mem_filter.mp hp).1
/-- behind a rule that changed d alone: all else but the frame is kept -/
theorem kept_of_news {g h h' : Heap} {L d : Addr} {m : Str → Option Value} (k : ∀ b o, g.get? b = some o → h.get? b = some o) (F : Fr g L h' m) (N : News g L h' (rest g h L d)) :
    ∀ b o, b ≠ L → b ≠ d → h.get? b = some o → h'.get? b = some o := fun b o h1 h2 e => by
  cases q : g.get? b with
  | some u =>
    have := k b u q
    rw [e] at this; cases this
    exact F.keep b _ q
  | none => exact (N (b, o) (mem_rest h1 q e h2)).1
end L2

namespace L2
open PySem PySem.Spec PyProof.Rows

/-- the module's facts, over the base: the heap at the law's entry without what is tracked there -/
structure Mod (K : PySem.W.Frag) (mg : Str → Option Value) (base : Heap) : Prop where
  kin : K.In base
  glob : base.Ns mainGlobals mg
  blt : ∃ mb, base.Ns builtinsNs mb ∧ ∀ x : Str, x ≠ "__name__" → mb x = bootBuiltins x
  nolimit : base.NoLimit

/-- the context: a def's body (or a comprehension's block) running. base: fixed through the whole law; s₀, H₀: the entry; outer: the frames whose slots others may change (a def's callers); stack: all frames that run;
   ex: iterators that were made ahead of the entry and are walked here (a comprehension's); fn: the names whose cells were made at the entry (a def: all; a comprehension's block: its own); calm: not within an except suite; pn: pins that every state bears; xe: what is wanted of an exception that leaves the code -/
structure Cx where
  prog : Program
  w : World
  K : PySem.W.Frag
  mg : Str → Option Value
  base : Heap
  A : Around
  N : List Str
  s₀ : Shared
  H₀ : Hp
  env : Env
  outer : List Env
  stack : List Env
  ex : List Addr
  fn : Str → Bool
  calm : Bool
  pn : List (Addr × Obj)
  xe : Value → Shared → Prop
/-- the callers' frames -/
def frs (l : List Env) : List Addr := l.filterMap (·.frame)
abbrev Cx.fs (X : Cx) : List Addr := frs X.outer

def Vis (sc : Scope) (x : Str) : Prop := sc.names.lookup x = some .local ∨ sc.names.lookup x = some .cell ∨ sc.names.lookup x = some .free
def Loc (sc : Scope) (x : Str) : Prop := sc.names.lookup x = some .local ∨ sc.names.lookup x = some .cell
def Look (env : Env) (h : Heap) (m : Str → Option Value) (x : Str) (u : Value) : Prop :=
  (env.kindOf x = some .local ∧ m x = some u) ∨ ((env.kindOf x = some .cell ∨ env.kindOf x = some .free) ∧ ∃ c, env.cells.lookup x = some c ∧ h.IsCell c (some u))

structure Cx.Ok (X : Cx) : Prop where
  mod : Mod X.K X.mg X.base
  kind : X.env.scope.kind = .function
  glob : X.env.globals = mainGlobals
  blt : X.env.builtins = builtinsNs
  above : X.s₀.heap.objs.size ≤ X.env.locals
  inj : ∀ x y c, X.env.cells.lookup x = some c → X.env.cells.lookup y = some c → x = y
  has : ∀ x, (X.env.kindOf x = some .cell ∨ X.env.kindOf x = some .free) → ∃ c, X.env.cells.lookup x = some c
  cab : ∀ x c, X.fn x = true → X.env.cells.lookup x = some c → X.s₀.heap.objs.size ≤ c
  hd : X.calm = true → X.A.handled = none
  frames : X.A.frames = some X.stack
  stk : X.stack = X.outer ∨ (X.stack = X.env :: X.outer ∧ X.env.frame = some X.env.locals)
  exf : ∀ b ∈ X.ex, b ≠ X.env.locals ∧ ∀ x c, X.env.cells.lookup x = some c → c ≠ b
  bs : ∀ b o, X.base.get? b = some o → X.s₀.heap.get? b = some o ∧ X.H₀ b = none
  bsz : X.base.objs.size ≤ X.s₀.heap.objs.size
  noex : ∀ b o, X.base.get? b = some o → b ∉ X.ex
  exfs : ∀ b ∈ X.ex, b ∉ X.fs
  funs : X.s₀.heap.FunFrames X.base X.outer
  frf : ∀ b ∈ X.fs, X.H₀ b = none

structure Inv (X : Cx) (pins : List (Addr × Obj)) (σ : List (Option V)) (H : Hp) (s : Shared) : Prop where
  ok : X.Ok
  os : s.os = X.s₀.os
  bare : Bar H s.gens s.toks
  base : Un X.fs X.ex X.H₀ H X.s₀.heap s.heap
  loc : ∃ m, s.heap.Ns X.env.locals m ∧ ∀ (i : Nat) (x : Str) (v : V), X.N[i]? = some x → σ[i]? = some (some v) → Vis X.env.scope x → ∃ u, RelV v u ∧ Look X.env s.heap m x u
  cell : ∀ x c, X.env.cells.lookup x = some c → ∃ v, s.heap.IsCell c v
  free : H X.env.locals = none
  freeC : ∀ x c, X.env.cells.lookup x = some c → H c = none
  pin : ∀ p ∈ X.pn ++ pins, s.heap.get? p.1 = some p.2 ∧ H p.1 = none ∧ p.1 ≠ X.env.locals ∧ p.1 ∉ X.fs ∧ ∀ v, p.2.data ≠ .cell v
  hok : HOk X.prog X.w H s.heap
  len : σ.length = X.N.length

section
variable {X : Cx} {pins : List (Addr × Obj)} {σ : List (Option V)} {H H' : Hp} {s : Shared} {h' : Heap}

theorem Cx.Ok.nofr (ok : X.Ok) {b : Addr} {o : Obj} (e : X.base.get? b = some o) : b ∉ X.fs := fun hb => by
  have := (ok.funs.mem hb).1
  rw [e] at this; cases this
theorem Inv.bs (I : Inv X pins σ H s) : ∀ b o, X.base.get? b = some o → s.heap.get? b = some o ∧ H b = none := fun b o e =>
  ⟨I.base.keep b o (I.ok.bs b o e).1 (I.ok.bs b o e).2 (I.ok.nofr e) (I.ok.noex b o e), I.base.free b o (I.ok.bs b o e).1 (I.ok.bs b o e).2 (I.ok.noex b o e)⟩
theorem Inv.bk (I : Inv X pins σ H s) : ∀ b o, X.base.get? b = some o → s.heap.get? b = some o := fun b o e => (I.bs b o e).1
theorem Inv.mod (I : Inv X pins σ H s) : Mod X.K X.mg X.base := I.ok.mod
theorem Inv.kIn (I : Inv X pins σ H s) : X.K.In s.heap := I.ok.mod.kin.keeps I.bk
theorem Inv.nolimit (I : Inv X pins σ H s) : s.heap.NoLimit := I.ok.mod.nolimit.keeps I.bk
/-- the frame over the base: for OpenK's rules (K.In X.base is I.mod.kin) -/
theorem Inv.fr (I : Inv X pins σ H s) : ∃ m, Fr X.base X.env.locals s.heap m :=
  let ⟨m, hn, _⟩ := I.loc
  ⟨m, hn, I.bk, Nat.le_trans I.ok.bsz I.ok.above⟩
theorem Inv.lt (I : Inv X pins σ H s) : X.env.locals < s.heap.objs.size := let ⟨_, hn, _⟩ := I.loc; hn.lt
theorem Inv.sz (I : Inv X pins σ H s) : X.s₀.heap.objs.size ≤ s.heap.objs.size := Nat.le_trans I.ok.above (Nat.le_of_lt I.lt)
theorem Inv.nofs (I : Inv X pins σ H s) {a : Addr} (h : s.heap.objs.size ≤ a) : a ∉ X.fs := fun hb => by
  obtain ⟨_, o, ho, _⟩ := I.ok.funs.mem hb
  exact absurd (Nat.lt_of_lt_of_le (Heap.lt_size ho) (Nat.le_trans I.sz h)) (Nat.lt_irrefl _)
theorem Inv.cne (I : Inv X pins σ H s) : ∀ x c, X.env.cells.lookup x = some c → c ≠ X.env.locals := fun x c e z => by
  obtain ⟨v, o, ho, hd⟩ := I.cell x c e
  obtain ⟨m, ⟨o', es, ep, ho', hd', _⟩, _⟩ := I.loc
  rw [z, ho'] at ho; cases ho; rw [hd'] at hd; cases hd
theorem Inv.funs (I : Inv X pins σ H s) : s.heap.FunFrames X.base X.outer := by
  have all : ∀ (l : List Env), (∀ b ∈ frs l, b ∈ X.fs) → X.s₀.heap.FunFrames X.base l → s.heap.FunFrames X.base l := by
    intro l
    induction l with
    | nil => intro _ _; trivial
    | cons env r ih =>
      intro hs hl
      obtain ⟨hk, ⟨L, o, hf, hn, ho, hd⟩, hr⟩ := hl
      have hL : L ∈ X.fs := hs L (by unfold frs; rw [List.filterMap_cons, hf]; exact List.mem_cons_self)
      obtain ⟨sl, e⟩ := I.base.slot L o ho (I.ok.frf L hL) hL fun z => I.ok.exfs L z hL
      exact ⟨hk, ⟨L, _, hf, hn, e, hd⟩, ih (fun b hb => hs b (by unfold frs; rw [List.filterMap_cons, hf]; exact List.mem_cons_of_mem _ hb)) hr⟩
  exact all X.outer (fun _ hb => hb) I.ok.funs

/-- the frames that run, for a call -/
theorem Inv.stack (I : Inv X pins σ H s) : s.heap.FunFrames X.base X.stack := by
  rcases I.ok.stk with e | ⟨e, hf⟩
  · rw [e]; exact I.funs
  · rw [e]
    obtain ⟨m, hn, _⟩ := I.loc
    refine .cons (by rw [I.ok.kind]; decide) hf hn ?_ I.funs
    exact Heap.get?_none_of_le (Nat.le_trans I.ok.bsz I.ok.above)
theorem Inv.stkSub (I : Inv X pins σ H s) : ∀ b ∈ frs X.stack, b ∈ X.env.locals :: X.fs := fun b hb => by
  rcases I.ok.stk with e | ⟨e, hf⟩
  · rw [e] at hb; exact List.mem_cons_of_mem _ hb
  · rw [e] at hb
    unfold frs at hb
    rw [List.filterMap_cons, hf] at hb
    exact hb
theorem Inv.stkFree (I : Inv X pins σ H s) : ∀ b ∈ frs X.stack, H b = none := fun b hb => by
  rcases List.mem_cons.mp (I.stkSub b hb) with e | hb
  · rw [e]; exact I.free
  · obtain ⟨_, o, ho, _⟩ := I.ok.funs.mem hb
    exact I.base.free b o ho (I.ok.frf b hb) fun z => I.ok.exfs b z hb

/-- THE STEP: the untracked objects but the frame and the records at ch are kept (the callers' frames up to slots), the frame's map is kept, the new abstract heap is held -/
theorem Inv.step {g' : Array GenState} {t' : Nat} {d' : Drawn} {ch : List Addr} (I : Inv X pins σ H s)
    (hch : ∀ b ∈ ch, (b ∈ X.ex ∨ X.s₀.heap.objs.size ≤ b) ∧ b ≠ X.env.locals ∧ (∀ x c, X.env.cells.lookup x = some c → c ≠ b) ∧ ∀ p ∈ X.pn ++ pins, p.1 ≠ b)
    (keep : ∀ b o, b ≠ X.env.locals → b ∉ X.fs → b ∉ ch → s.heap.get? b = some o → H b = none → h'.get? b = some o)
    (slot : ∀ b o, b ≠ X.env.locals → b ∈ X.fs → b ∉ ch → s.heap.get? b = some o → H b = none → ∃ sl, h'.get? b = some { o with slots := sl }) (free : ∀ b o, b ∉ ch → s.heap.get? b = some o → H b = none → H' b = none)
    (there : ∀ b o, b ∉ ch → s.heap.get? b = some o → ∃ o', h'.get? b = some o')
    (tups : ∀ b xs, H b = some (.tup xs) → H' b = some (.tup xs)) (frzs : ∀ b o u, H b = some (.frz o u) → H' b = some (.frz o u)) (tbls : ∀ b ps, H b = some (.tbl ps) → ∃ more, H' b = some (.tbl (ps ++ more)))
    (ns : ∀ m, s.heap.Ns X.env.locals m → h'.Ns X.env.locals m) (hok : HOk X.prog X.w H' h') (hg : Bar H' g' t') :
    Inv X pins σ H' { s with heap := h', gens := g', drawn := d', toks := t' } := by
  have neL : ∀ b o, X.s₀.heap.get? b = some o → b ≠ X.env.locals := fun b o e => Nat.ne_of_lt (Nat.lt_of_lt_of_le (Heap.lt_size e) I.ok.above)
  have neC : ∀ b o, X.s₀.heap.get? b = some o → b ∉ X.ex → b ∉ ch := fun b o e hx hb => by
    rcases (hch b hb).1 with z | z
    · exact hx z
    · exact absurd (Nat.lt_of_lt_of_le (Heap.lt_size e) z) (Nat.lt_irrefl _)
  have cellK : ∀ x c, X.env.cells.lookup x = some c → ∀ v, s.heap.IsCell c v → h'.IsCell c v := fun x c e v ⟨o, ho, hd⟩ => by
    have nch : c ∉ ch := fun z => (hch c z).2.2.1 x c e rfl
    by_cases hc : c ∈ X.fs
    · obtain ⟨sl, q⟩ := slot c o (I.cne x c e) hc nch ho (I.freeC x c e)
      exact ⟨_, q, hd⟩
    · exact ⟨o, keep c o (I.cne x c e) hc nch ho (I.freeC x c e), hd⟩
  refine ⟨I.ok, I.os, hg, ⟨fun b o e n hb hx => ?_, fun b o e n hb hx => ?_, fun b o e n hx => ?_, fun b o e hx => ?_, fun b xs e => tups b xs (I.base.tups b xs e), fun b o xs e => frzs b o xs (I.base.frzs b o xs e), fun b ps e => ?_⟩, ?_, fun x c e => ?_, ?_, fun x c e => ?_, fun p hp => ?_, hok, I.len⟩
  · exact keep b o (neL b o e) hb (neC b o e hx) (I.base.keep b o e n hb hx) (I.base.free b o e n hx)
  · obtain ⟨sl, e1⟩ := I.base.slot b o e n hb hx
    obtain ⟨sl', e2⟩ := slot b _ (neL b o e) hb (neC b o e hx) e1 (I.base.free b o e n hx)
    exact ⟨sl', e2⟩
  · obtain ⟨o', e1⟩ := I.base.there b o e hx
    exact free b o' (neC b o e hx) e1 (I.base.free b o e n hx)
  · obtain ⟨o', e1⟩ := I.base.there b o e hx
    exact there b o' (neC b o e hx) e1
  · obtain ⟨m1, e1⟩ := I.base.tbls b ps e
    obtain ⟨m2, e2⟩ := tbls b _ e1
    exact ⟨m1 ++ m2, by rw [e2, Array.append_assoc]⟩
  · obtain ⟨m, hn, hl⟩ := I.loc
    refine ⟨m, ns m hn, fun i x v e1 e2 e3 => ?_⟩
    obtain ⟨u, r, l⟩ := hl i x v e1 e2 e3
    refine ⟨u, r, ?_⟩
    rcases l with l | ⟨k, c, e, z⟩
    · exact .inl l
    · exact .inr ⟨k, c, e, cellK x c e _ z⟩
  · obtain ⟨v, z⟩ := I.cell x c e
    exact ⟨v, cellK x c e v z⟩
  · obtain ⟨m, ⟨o, _, _, ho, _⟩, _⟩ := I.loc
    exact free _ o (fun z => (hch _ z).2.1 rfl) ho I.free
  · obtain ⟨v, o, ho, hd⟩ := I.cell x c e
    exact free c o (fun z => (hch c z).2.2.1 x c e rfl) ho (I.freeC x c e)
  · obtain ⟨e, n, ne, nf, d⟩ := I.pin p hp
    have nch : p.1 ∉ ch := fun z => (hch p.1 z).2.2.2 p hp rfl
    exact ⟨keep p.1 p.2 ne nf nch e n, free p.1 p.2 nch e n, ne, nf, d⟩
/-- .. where the frame's own object is kept too -/
theorem Inv.un {t' : Nat} (I : Inv X pins σ H s) (u : Un X.fs [] H H' s.heap h') (hok : HOk X.prog X.w H' h') (ht : s.toks ≤ t' := by first | exact Nat.le_refl _ | exact Nat.le_succ _ | assumption | omega) (hcl : H'.clk ≤ H.clk := by exact Nat.le_refl _) : Inv X pins σ H' { s with heap := h', toks := t' } := by
  obtain ⟨m, ⟨o, es, ep, ho, r⟩, _⟩ := id I.loc
  obtain ⟨sl, hL⟩ := u.any ho I.free (by simp)
  exact I.step (g' := s.gens) (d' := s.drawn) (ch := []) (fun _ z => nomatch z) (fun b o _ hb _ e n => u.keep b o e n hb (by simp)) (fun b o _ hb _ e n => u.slot b o e n hb (by simp)) (fun b o _ e n => u.free b o e n (by simp)) (fun b o _ e => u.there b o e (by simp)) u.tups u.frzs u.tbls (fun m' hm => by
    obtain ⟨o', es', ep', ho', r'⟩ := hm
    rw [ho] at ho'; cases ho'
    exact ⟨_, es', ep', hL, r'⟩) hok ⟨I.bare.1, Nat.le_trans hcl (Nat.le_trans I.bare.2 ht)⟩
/-- behind a call (or a comprehension's block): the slots of this frame may have changed too, the records at ch may have turned -/
theorem Inv.call {g' : Array GenState} {t' : Nat} {d' : Drawn} {ch : List Addr} (I : Inv X pins σ H s) (u : Un (frs X.stack) ch H H' s.heap h') (hok : HOk X.prog X.w H' h') (hg : Bar H' g' t')
    (hch : ∀ b ∈ ch, (b ∈ X.ex ∨ X.s₀.heap.objs.size ≤ b) ∧ b ≠ X.env.locals ∧ (∀ x c, X.env.cells.lookup x = some c → c ≠ b) ∧ ∀ p ∈ X.pn ++ pins, p.1 ≠ b) :
    Inv X pins σ H' { s with heap := h', gens := g', drawn := d', toks := t' } := by
  obtain ⟨m, ⟨o, es, ep, ho, r⟩, _⟩ := id I.loc
  obtain ⟨sl, hL⟩ := u.any ho I.free fun z => (hch _ z).2.1 rfl
  exact I.step (ch := ch) hch (fun b o hL hb hc e n => u.keep b o e n (fun z => (List.mem_cons.mp (I.stkSub b z)).elim hL hb) hc) (fun b o _ _ hc e n => u.any e n hc) (fun b o hc e n => u.free b o e n hc) (fun b o hc e => u.there b o e hc) u.tups u.frzs u.tbls (fun m' hm => by
    obtain ⟨o', es', ep', ho', r'⟩ := hm
    rw [ho] at ho'; cases ho'
    exact ⟨_, es', ep', hL, r'⟩) hok hg
/-- an untracked record of ours (an iterator) has turned -/
theorem Inv.turned {t' : Nat} {it : Addr} (I : Inv X pins σ H s) (k : ∀ b o, b ≠ it → s.heap.get? b = some o → h'.get? b = some o) (hn : H it = none) (hL : it ≠ X.env.locals)
    (h1 : it ∈ X.ex ∨ X.s₀.heap.objs.size ≤ it) (h2 : ∀ x c, X.env.cells.lookup x = some c → c ≠ it) (h3 : ∀ p ∈ X.pn ++ pins, p.1 ≠ it) (ht : s.toks ≤ t' := by first | exact Nat.le_refl _ | exact Nat.le_succ _ | assumption | omega) : Inv X pins σ H { s with heap := h', toks := t' } := by
  have nit : ∀ b u, H b = some u → b ≠ it := fun b u e z => by rw [z, hn] at e; cases e
  refine I.step (g' := s.gens) (d' := s.drawn) (ch := [it]) (fun b hb => ?_) (fun b o _ _ hc e _ => k b o (fun z => hc (by simp [z])) e) (fun b o _ _ hc e _ => ⟨o.slots, k b o (fun z => hc (by simp [z])) e⟩) (fun _ _ _ _ n => n)
    (fun b o hc e => ⟨o, k b o (fun z => hc (by simp [z])) e⟩) (fun _ _ e => e) (fun _ _ _ e => e) (fun b ps e => ⟨#[], by rw [e]; simp⟩) (fun m hm => ?_) (fun b u e => ?_) ⟨I.bare.1, Nat.le_trans I.bare.2 ht⟩
  · have e : b = it := by simpa using hb
    subst e
    exact ⟨h1, hL, h2, h3⟩
  · obtain ⟨o, es, ep, ho, r⟩ := hm
    exact ⟨o, es, ep, k _ o (Ne.symm hL) ho, r⟩
  · refine (I.hok b u e).stay (fun c v hc q => k c v ?_ q) (fun _ q => q) fun _ _ q => q
    rcases hc with z | z
    · rw [z]; exact nit b u e
    · exact nit c _ z
theorem Inv.tok (I : Inv X pins σ H s) (t : Nat) (ht : s.toks ≤ t := by first | exact Nat.le_refl _ | exact Nat.le_succ _ | assumption | omega) : Inv X pins σ H { s with toks := t } := I.un (h' := s.heap) (t' := t) Un.refl I.hok ht
/-- all objects kept -/
theorem Inv.kept {t' : Nat} (I : Inv X pins σ H s) (k : ∀ b u, s.heap.get? b = some u → h'.get? b = some u) (ht : s.toks ≤ t' := by first | exact Nat.le_refl _ | exact Nat.le_succ _ | assumption | omega) : Inv X pins σ H { s with heap := h', toks := t' } := I.un (Un.kept k) (I.hok.kept k) ht
/-- a new object laid and tracked -/
theorem Inv.laid {a : Addr} {o : HO} {t' : Nat} (I : Inv X pins σ H s) (k : ∀ b u, s.heap.get? b = some u → h'.get? b = some u) (hp : s.heap.objs.size ≤ a) (new : ObjOk X.prog X.w (upd H a o) h' a o) (ht : s.toks ≤ t' := by first | exact Nat.le_refl _ | exact Nat.le_succ _ | assumption | omega) :
    Inv X pins σ (upd H a o) { s with heap := h', toks := t' } := I.un (Un.laid k hp (I.hok.fresh hp)) (I.hok.laid k hp new) ht
/-- an object written -/
theorem Inv.write {x e : Addr} {o : HO} {t' : Nat} (I : Inv X pins σ H s) (mu : Mut (H x)) (he : e = x ∨ H e = some (.own x)) (k : ∀ b u, b ≠ e → s.heap.get? b = some u → h'.get? b = some u) (heo : ∃ u, h'.get? e = some u)
    (new : ObjOk X.prog X.w (upd H x o) h' x o) (ht : s.toks ≤ t' := by first | exact Nat.le_refl _ | exact Nat.le_succ _ | assumption | omega) : Inv X pins σ (upd H x o) { s with heap := h', toks := t' } := I.un (Un.write mu he k heo) (I.hok.write mu he k heo new) ht
/-- forgetting slots, pins -/
theorem Inv.weak {σ' : List (Option V)} (I : Inv X pins σ H s) (hl : σ'.length = σ.length) (w : ∀ (i : Nat) v, σ'[i]? = some (some v) → σ[i]? = some (some v)) : Inv X pins σ' H s :=
  ⟨I.ok, I.os, I.bare, I.base, let ⟨m, hn, hl'⟩ := I.loc; ⟨m, hn, fun i x v e1 e2 e3 => hl' i x v e1 (w i v e2) e3⟩, I.cell, I.free, I.freeC, I.pin, I.hok, hl.trans I.len⟩
theorem Inv.pins_of {pins' : List (Addr × Obj)} (I : Inv X pins σ H s) (h : ∀ p ∈ pins', s.heap.get? p.1 = some p.2 ∧ H p.1 = none ∧ p.1 ≠ X.env.locals ∧ p.1 ∉ X.fs ∧ ∀ v, p.2.data ≠ .cell v) : Inv X pins' σ H s :=
  ⟨I.ok, I.os, I.bare, I.base, I.loc, I.cell, I.free, I.freeC, fun p hp => (List.mem_append.mp hp).elim (fun z => I.pin p (List.mem_append_left _ z)) (h p), I.hok, I.len⟩

theorem nodup_ix {N : List Str} (hN : N.Nodup) {i j : Nat} {x : Str} (a : N[i]? = some x) (b : N[j]? = some x) : i = j := by
  obtain ⟨h1, e1⟩ := List.getElem?_eq_some_iff.mp a
  obtain ⟨h2, e2⟩ := List.getElem?_eq_some_iff.mp b
  exact (List.getElem_inj hN).mp (e1.trans e2.symm)

/-- a name is stored; what changed -/
theorem store_ok2 {M : Model} {A : Around} {E : Value → Shared → Prop} {i : Nat} {x : Str} {v : V} {u : Value} {Q : Unit → Shared → Prop} (I : Inv X pins σ H s) (hN : X.N.Nodup) (hi : X.N[i]? = some x) (hx : Loc X.env.scope x) (r : RelV v u)
    (h : ∀ s', Inv X pins (σ.set i (some v)) H s' → (∃ a, Heap.SameBut a s.heap s'.heap ∧ (a = X.env.locals ∨ X.env.cells.lookup x = some a)) → Q () s') (hf : X.fn x = true ∨ X.env.scope.names.lookup x = some .local := by first | exact .inl rfl | exact .inr rfl | assumption) : wpAny M A (storeName X.env x u) Q E s := by
  obtain ⟨m, hn, hl⟩ := id I.loc
  have hcls : (X.env.scope.kind == .class || (X.env.scope.kind == .module && X.env.locals != X.env.globals)) = false := by rw [I.ok.kind]; rfl
  have hiσ : i < σ.length := by rw [I.len]; exact (List.getElem?_eq_some_iff.mp hi).1
  have cne := I.cne
  have tracked : ∀ {a : Addr} {h' : Heap}, (∃ o, s.heap.get? a = some o ∧ H a = none) → Heap.SameBut a s.heap h' → HOk X.prog X.w H h' := fun {a h'} ha hs b ob e => by
    obtain ⟨_, _, hfree⟩ := ha
    refine (I.hok b ob e).stay (fun c w' hc q => (hs.2 c ?_).trans q) (fun _ q => q) fun _ _ q => q
    rintro rfl
    rcases hc with rfl | hc
    · rw [hfree] at e; cases e
    · rw [hfree] at hc; cases hc
  rcases hx with hk | hk
  · refine wpAny_storeName_local hk hn (fun h' hn' hs => ?_) hcls
    obtain ⟨oL, _, _, hoL, _⟩ := id hn
    refine h _ ⟨I.ok, I.os, ⟨I.bare.1, Nat.le_succ_of_le I.bare.2⟩, ⟨fun b o e n hb hx => ?_, fun b o e n hb hx => ?_, I.base.free, fun b o e hx => ?_, I.base.tups, I.base.frzs, I.base.tbls⟩, ⟨_, hn', fun j y v' e1 e2 e3 => ?_⟩, fun y c e => ?_, I.free, I.freeC, fun p hp => ?_, tracked ⟨oL, hoL, I.free⟩ hs, by simpa using I.len⟩ ⟨_, hs, .inl rfl⟩
    · exact (hs.2 b (Nat.ne_of_lt (Nat.lt_of_lt_of_le (Heap.lt_size e) I.ok.above))).trans (I.base.keep b o e n hb hx)
    · obtain ⟨sl, e1⟩ := I.base.slot b o e n hb hx
      exact ⟨sl, (hs.2 b (Nat.ne_of_lt (Nat.lt_of_lt_of_le (Heap.lt_size e) I.ok.above))).trans e1⟩
    · obtain ⟨o', e1⟩ := I.base.there b o e hx
      exact ⟨o', (hs.2 b (Nat.ne_of_lt (Nat.lt_of_lt_of_le (Heap.lt_size e) I.ok.above))).trans e1⟩
    · by_cases hj : j = i
      · subst hj
        rw [hi] at e1; cases e1
        rw [List.getElem?_set_self hiσ] at e2
        cases e2
        exact ⟨u, r, .inl ⟨hk, by simp⟩⟩
      · rw [List.getElem?_set_ne (Ne.symm hj)] at e2
        obtain ⟨u', r', q⟩ := hl j y v' e1 e2 e3
        refine ⟨u', r', ?_⟩
        rcases q with ⟨k, e⟩ | ⟨k, c, e, z⟩
        · refine .inl ⟨k, ?_⟩
          have : y ≠ x := fun e => hj (nodup_ix hN e1 (e ▸ hi))
          simp [this, e]
        · exact .inr ⟨k, c, e, z.sameBut hs (cne y c e)⟩
    · obtain ⟨w', z⟩ := I.cell y c e
      exact ⟨w', z.sameBut hs (cne y c e)⟩
    · obtain ⟨e, n, ne, nf, d⟩ := I.pin p hp
      exact ⟨(hs.2 p.1 ne).trans e, n, ne, nf, d⟩
  · have hfn : X.fn x = true := by
      rcases hf with z | z
      · exact z
      · rw [z] at hk; cases hk
    obtain ⟨c, hc⟩ := I.ok.has x (.inl hk)
    obtain ⟨w', z⟩ := I.cell x c hc
    refine wpAny_storeName_cell I.ok.kind hk hc z (fun h' hc' hs => ?_)
    obtain ⟨oc, hoc, hocd⟩ := id z
    refine h { s with heap := h' } ⟨I.ok, I.os, I.bare, ⟨fun b o e n hb hx => ?_, fun b o e n hb hx => ?_, I.base.free, fun b o e hx => ?_, I.base.tups, I.base.frzs, I.base.tbls⟩, ⟨m, hn.sameBut hs (Ne.symm (cne x c hc)), fun j y v' e1 e2 e3 => ?_⟩, fun y c' e => ?_, I.free, I.freeC, fun p hp => ?_, tracked ⟨oc, hoc, I.freeC x c hc⟩ hs, by simpa using I.len⟩ ⟨c, hs, .inr hc⟩
    · exact (hs.2 b (Nat.ne_of_lt (Nat.lt_of_lt_of_le (Heap.lt_size e) (I.ok.cab x c hfn hc)))).trans (I.base.keep b o e n hb hx)
    · obtain ⟨sl, e1⟩ := I.base.slot b o e n hb hx
      exact ⟨sl, (hs.2 b (Nat.ne_of_lt (Nat.lt_of_lt_of_le (Heap.lt_size e) (I.ok.cab x c hfn hc)))).trans e1⟩
    · obtain ⟨o', e1⟩ := I.base.there b o e hx
      exact ⟨o', (hs.2 b (Nat.ne_of_lt (Nat.lt_of_lt_of_le (Heap.lt_size e) (I.ok.cab x c hfn hc)))).trans e1⟩
    · by_cases hj : j = i
      · subst hj
        rw [hi] at e1; cases e1
        rw [List.getElem?_set_self hiσ] at e2
        cases e2
        exact ⟨u, r, .inr ⟨.inl hk, c, hc, hc'⟩⟩
      · rw [List.getElem?_set_ne (Ne.symm hj)] at e2
        obtain ⟨u', r', q⟩ := hl j y v' e1 e2 e3
        refine ⟨u', r', ?_⟩
        rcases q with q | ⟨k, c', e, z'⟩
        · exact .inl q
        · refine .inr ⟨k, c', e, z'.sameBut hs ?_⟩
          rintro rfl
          exact hj (nodup_ix hN e1 (I.ok.inj _ _ _ e hc ▸ hi))
    · by_cases hcc : c' = c
      · subst hcc; exact ⟨_, hc'⟩
      · obtain ⟨w2, z2⟩ := I.cell y c' e
        exact ⟨w2, z2.sameBut hs hcc⟩
    · obtain ⟨e, n, ne, nf, d⟩ := I.pin p hp
      refine ⟨(hs.2 p.1 ?_).trans e, n, ne, nf, d⟩
      intro q
      rw [q, hoc] at e
      have q' : oc = p.2 := Option.some.inj e
      exact d w' (by rw [← q']; exact hocd)
theorem store_ok {M : Model} {A : Around} {E : Value → Shared → Prop} {i : Nat} {x : Str} {v : V} {u : Value} {Q : Unit → Shared → Prop} (I : Inv X pins σ H s) (hN : X.N.Nodup) (hi : X.N[i]? = some x) (hx : Loc X.env.scope x) (r : RelV v u)
    (h : ∀ s', Inv X pins (σ.set i (some v)) H s' → Q () s') (hf : X.fn x = true ∨ X.env.scope.names.lookup x = some .local := by first | exact .inl rfl | exact .inr rfl | assumption) : wpAny M A (storeName X.env x u) Q E s :=
  store_ok2 I hN hi hx r (fun s' I' _ => h s' I') hf
/-- behind a call or a block, the state as it is -/
theorem Inv.call' {s' : Shared} {ch : List Addr} (I : Inv X pins σ H s) (ho : s'.os = s.os) (u : Un (frs X.stack) ch H H' s.heap s'.heap) (hok : HOk X.prog X.w H' s'.heap) (hg : Bar H' s'.gens s'.toks)
    (hch : ∀ b ∈ ch, (b ∈ X.ex ∨ X.s₀.heap.objs.size ≤ b) ∧ b ≠ X.env.locals ∧ (∀ x c, X.env.cells.lookup x = some c → c ≠ b) ∧ ∀ p ∈ X.pn ++ pins, p.1 ≠ b) : Inv X pins σ H' s' := by
  obtain ⟨h', g', d', t', o'⟩ := s'
  have e : o' = s.os := ho
  subst e
  exact I.call (g' := g') (t' := t') (d' := d') u hok hg hch
end

/-! ### the judgements -/
/-- an exception: its class, its own dict's address (where it has one), the abstract heap behind it -/
abbrev XK := Value → Option Addr → Hp → Prop
abbrev St := List (Option V)
abbrev VK := V → Hp → Prop
/-- an expression's reading; a test's; an argument list's -/
abbrev TE := St → Hp → VK → Prop
abbrev TT := St → Hp → (Bool → Hp → Prop) → Prop
abbrev TA := St → Hp → (List V → Hp → Prop) → Prop
/-- what is wanted behind a statement -/
structure Ends where
  nx : St → Hp → Prop
  rt : VK
  bk : St → Hp → Prop := fun _ _ => False
  ct : St → Hp → Prop := fun _ _ => False
abbrev TS := Ends → St → Hp → Prop

def EP (X : Cx) (pins : List (Addr × Obj)) (σ : St) (Q : VK) (u : Value) (s' : Shared) : Prop := ∃ v H', Inv X pins σ H' s' ∧ RelV v u ∧ Q v H'
def TP (X : Cx) (pins : List (Addr × Obj)) (σ : St) (Q : Bool → Hp → Prop) (b : Bool) (s' : Shared) : Prop := ∃ H', Inv X pins σ H' s' ∧ Q b H'
def AP (X : Cx) (pins : List (Addr × Obj)) (σ : St) (Q : List V → Hp → Prop) (us : List Value) (s' : Shared) : Prop := ∃ vs H', Inv X pins σ H' s' ∧ Vals vs us ∧ Q vs H'
def SP (X : Cx) (pins : List (Addr × Obj)) (D : Ends) (f : Flow) (s' : Shared) : Prop :=
  match f with
  | .next => ∃ σ' H', Inv X pins σ' H' s' ∧ D.nx σ' H'
  | .brk => ∃ σ' H', Inv X pins σ' H' s' ∧ D.bk σ' H'
  | .cont => ∃ σ' H', Inv X pins σ' H' s' ∧ D.ct σ' H'
  | .ret u => ∃ v σ' H', Inv X pins σ' H' s' ∧ RelV v u ∧ D.rt v H'

def PE (X : Cx) (e : Expr) (t : TE) : Prop :=
  ∀ (pins : List (Addr × Obj)) (s : Shared) (σ : St) (H : Hp) (Q : VK), Inv X pins σ H s → t σ H Q → wpAny (model X.prog X.w) X.A (eval e X.env) (EP X pins σ Q) X.xe s
def PT (X : Cx) (e : Expr) (t : TT) : Prop :=
  ∀ (pins : List (Addr × Obj)) (s : Shared) (σ : St) (H : Hp) (Q : Bool → Hp → Prop), Inv X pins σ H s → t σ H Q → wpAny (model X.prog X.w) X.A (isTrue e X.env (eval e X.env)) (TP X pins σ Q) X.xe s
/-- a test whatever its 'whole' is (and, or) -/
def PW (X : Cx) (e : Expr) (t : TT) : Prop :=
  ∀ (whole : Sem Value) (pins : List (Addr × Obj)) (s : Shared) (σ : St) (H : Hp) (Q : Bool → Hp → Prop), Inv X pins σ H s → t σ H Q → wpAny (model X.prog X.w) X.A (isTrue e X.env whole) (TP X pins σ Q) X.xe s
theorem PW.pt {X : Cx} {e : Expr} {t : TT} (h : PW X e t) : PT X e t := h _
/-- an argument list (no star), from the left -/
def PA (X : Cx) (es : List Expr) (t : TA) : Prop :=
  ∀ (pos : Pos) (pins : List (Addr × Obj)) (s : Shared) (σ : St) (H : Hp) (Q : List V → Hp → Prop), Inv X pins σ H s → t σ H Q → wpAny (model X.prog X.w) X.A (spliced (backTo pos (starEach es X.env))) (AP X pins σ Q) X.xe s
def PS (X : Cx) (st : Stmt) (t : TS) : Prop :=
  ∀ (pins : List (Addr × Obj)) (s : Shared) (σ : St) (H : Hp) (D : Ends), Inv X pins σ H s → t D σ H → wpAny (model X.prog X.w) X.A (exec st X.env) (SP X pins D) X.xe s
def PSs (X : Cx) (st : List Stmt) (t : TS) : Prop :=
  ∀ (pins : List (Addr × Obj)) (s : Shared) (σ : St) (H : Hp) (D : Ends), Inv X pins σ H s → t D σ H → wpAny (model X.prog X.w) X.A (execs st X.env) (SP X pins D) X.xe s
/-- weaken the end -/
theorem thn {α : Type} {t : Sem α} {Q Q' : α → Shared → Prop} {M : Model} {A : Around} {E : Value → Shared → Prop} {s : Shared} (h : wpAny M A t Q E s) (hQ : ∀ a s, Q a s → Q' a s) : wpAny M A t Q' E s := wpAny_mono h hQ fun _ _ x => x
end L2

namespace L2
open PySem PySem.Spec PyProof.Rows
section
variable {X : Cx}

/-- two expressions in a row -/
theorem bin {a b : Expr} {ta tb : TE} (ha : PE X a ta) (hb : PE X b tb) {pins : List (Addr × Obj)} {s : Shared} {σ : St} {H : Hp} {R : V → V → Hp → Prop} (I : Inv X pins σ H s) (h : ta σ H fun x H1 => tb σ H1 fun y H2 => R x y H2)
    {α : Type} {Q : α → Shared → Prop} {f : Value → Value → Sem α}
    (hf : ∀ v u s2 x y H2, Inv X pins σ H2 s2 → RelV x v → RelV y u → R x y H2 → wpAny (model X.prog X.w) X.A (f v u) Q X.xe s2) :
    wpAny (model X.prog X.w) X.A (eval a X.env) (fun v s₁ => wpAny (model X.prog X.w) X.A (eval b X.env) (fun u s₂ => wpAny (model X.prog X.w) X.A (f v u) Q X.xe s₂) X.xe s₁) X.xe s := by
  refine thn (ha pins s σ H _ I h) fun v s1 ⟨x, H1, I1, r1, q1⟩ => ?_
  refine thn (hb pins s1 σ H1 _ I1 q1) fun u s2 ⟨y, H2, I2, r2, q2⟩ => ?_
  exact hf v u s2 x y H2 I2 r1 r2 q2

/-! ### names and constants -/
def tVar (i : Nat) : TE := fun σ H Q => ∃ v, σ[i]? = some (some v) ∧ Q v H
def tC (v : V) : TE := fun _ H Q => Q v H
theorem pe_var {i : Nat} {x : Str} {pos : Pos} (hN : X.N[i]? = some x) (hv : Vis X.env.scope x) (hd : (x == ("__debug__" : Str)) = false := by decide) (hcd : (x == ("__classdict__" : Str)) = false := by decide) : PE X (.Name x pos) (tVar i) := by
  intro pins s σ H Q I h
  obtain ⟨v, e, h⟩ := h
  obtain ⟨m, hn, hl⟩ := I.loc
  obtain ⟨u, r, l⟩ := hl i x v hN e hv
  have fin : EP X pins σ Q u s := ⟨v, H, I, r, h⟩
  rcases l with ⟨hk, hm⟩ | ⟨hk, c, hc, hcell⟩
  · exact wpAny_Name (wpAny_loadName_local I.ok.kind hk hn hm fin) hd
  · rcases hk with hk | hk
    · exact wpAny_Name (wpAny_loadName_cell I.ok.kind hk hc hcell fin) hd
    · exact wpAny_Name (wpAny_loadName_free I.ok.kind hk hc hcell fin hcd) hd
theorem pe_int {i j pos} : PE X (.Constant (.int i) j pos) (tC (.int i)) := fun _ _ _ H _ I h => wpAny_Constant_int ⟨.int i, H, I.tok _, ⟨_, rfl⟩, h⟩
theorem pe_bl {b j pos} : PE X (.Constant (.bool b) j pos) (tC (.bl b)) := fun _ _ _ H _ I h => Constant_bool ⟨.bl b, H, I, rfl, h⟩
theorem pe_non {j pos} : PE X (.Constant .none j pos) (tC .non) := fun _ _ _ H _ I h => Constant_none ⟨.non, H, I, rfl, h⟩
theorem pe_str {x j pos} : PE X (.Constant (.str x) j pos) (tC (.str x)) := fun _ _ _ H _ I h => Calls.Constant_str ⟨.str x, H, I.tok _, ⟨_, rfl⟩, h⟩

/-- a global name of the def -/
def Gl (X : Cx) (x : Str) : Prop := X.env.kindOf x = some .globalImplicit
theorem ld_glob {E : Value → Shared → Prop} {pins : List (Addr × Obj)} {s : Shared} {σ : St} {H : Hp} {x : Str} {u : Value} {pos : Pos} {Q : Value → Shared → Prop} (I : Inv X pins σ H s) (hg : Gl X x) (hm : X.mg x = some u) (h : Q u s)
    (hd : (x == ("__debug__" : Str)) = false := by decide) : wpAny (model X.prog X.w) X.A (eval (.Name x pos) X.env) Q E s :=
  Calls.Name_function_global I.ok.kind hg (Calls.loadGlobal_global (by rw [I.ok.glob]; exact I.mod.glob.keeps I.bk) hm h) hd
theorem ld_blt {E : Value → Shared → Prop} {pins : List (Addr × Obj)} {s : Shared} {σ : St} {H : Hp} {x : Str} {u : Value} {pos : Pos} {Q : Value → Shared → Prop} (I : Inv X pins σ H s) (hg : Gl X x) (hm : X.mg x = none) (hv : bootBuiltins x = some u) (h : Q u s)
    (hn : x ≠ "__name__" := by decide) (hd : (x == ("__debug__" : Str)) = false := by decide) : wpAny (model X.prog X.w) X.A (eval (.Name x pos) X.env) Q E s := by
  obtain ⟨mb, h1, h2⟩ := I.mod.blt
  exact Calls.Name_function_global I.ok.kind hg (Calls.loadGlobal_builtin (by rw [I.ok.glob]; exact I.mod.glob.keeps I.bk) hm (by rw [I.ok.blt]; exact h1.keeps I.bk) ((h2 x hn).trans hv) h) hd
/-- a module's constant, a class, a function, as a value -/
theorem pe_glob {x : Str} {v : V} {u : Value} {pos : Pos} (hg : Gl X x) (hm : X.mg x = some u) (r : RelV v u) (hd : (x == ("__debug__" : Str)) = false := by decide) : PE X (.Name x pos) (tC v) :=
  fun _ _ _ H _ I h => ld_glob I hg hm ⟨v, H, I, r, h⟩ hd
theorem pe_bltn {x : Str} {v : V} {u : Value} {pos : Pos} (hg : Gl X x) (hm : X.mg x = none) (hv : bootBuiltins x = some u) (r : RelV v u) (hn : x ≠ "__name__" := by decide) (hd : (x == ("__debug__" : Str)) = false := by decide) : PE X (.Name x pos) (tC v) :=
  fun _ _ _ H _ I h => ld_blt I hg hm hv ⟨v, H, I, r, h⟩ hn hd

/-! ### arithmetic -/
/-- two ints -/
def t2I (ta tb : TE) (k : Int → Int → Hp → Prop) : St → Hp → Prop := fun σ H => ta σ H fun x H1 => tb σ H1 fun y H2 => ∃ i j, x = .int i ∧ y = .int j ∧ k i j H2
def tAdd (ta tb : TE) : TE := fun σ H Q => t2I ta tb (fun i j H2 => Q (.int (i + j)) H2) σ H
def tSub (ta tb : TE) : TE := fun σ H Q => t2I ta tb (fun i j H2 => Q (.int (i - j)) H2) σ H
/-- the left factor below 2^64 -/
def tMul (ta tb : TE) : TE := fun σ H Q => t2I ta tb (fun i j H2 => (-(2 ^ 64) < i ∧ i < 2 ^ 64) ∧ Q (.int (i * j)) H2) σ H
variable {a b : Expr} {ta tb : TE} {pos : Pos}
theorem pe_add (ha : PE X a ta) (hb : PE X b tb) : PE X (.BinOp a .Add b pos) (tAdd ta tb) := by
  intro pins s σ H Q I h
  refine wpAny_BinOp (bin ha hb I h fun v u s2 x y H2 I2 rx ry q => ?_)
  obtain ⟨i, j, rfl, rfl, q⟩ := q
  obtain ⟨t, rfl⟩ := rx
  obtain ⟨t', rfl⟩ := ry
  exact add_int ⟨.int _, H2, I2.tok _, ⟨_, rfl⟩, q⟩
theorem pe_sub (ha : PE X a ta) (hb : PE X b tb) : PE X (.BinOp a .Sub b pos) (tSub ta tb) := by
  intro pins s σ H Q I h
  refine wpAny_BinOp (bin ha hb I h fun v u s2 x y H2 I2 rx ry q => ?_)
  obtain ⟨i, j, rfl, rfl, q⟩ := q
  obtain ⟨t, rfl⟩ := rx
  obtain ⟨t', rfl⟩ := ry
  exact sub_int ⟨.int _, H2, I2.tok _, ⟨_, rfl⟩, q⟩
theorem pe_mul (ha : PE X a ta) (hb : PE X b tb) : PE X (.BinOp a .Mult b pos) (tMul ta tb) := by
  intro pins s σ H Q I h
  refine wpAny_BinOp (bin ha hb I h fun v u s2 x y H2 I2 rx ry q => ?_)
  obtain ⟨i, j, rfl, rfl, ⟨q1, q2⟩, q⟩ := q
  obtain ⟨t, rfl⟩ := rx
  obtain ⟨t', rfl⟩ := ry
  exact mul_int ⟨.int _, H2, I2.tok _, ⟨_, rfl⟩, q⟩ (.of_left (intBits_le_64 q1 q2))

/-! ### comparisons -/
def PC (X : Cx) (op : CmpOp) (a b : Expr) (t : TE) : Prop :=
  ∀ (pins : List (Addr × Obj)) (s : Shared) (σ : St) (H : Hp) (Q : VK), Inv X pins σ H s → t σ H Q →
    wpAny (model X.prog X.w) X.A (eval a X.env) (fun v s₁ => wpAny (model X.prog X.w) X.A (eval b X.env) (fun u s₂ => wpAny (model X.prog X.w) X.A (compareOp op v u) (EP X pins σ Q) X.xe s₂) X.xe s₁) X.xe s
theorem nobehind (b : Expr) {op : CmpOp} (h : op ≠ .In) (h2 : op ≠ .NotIn) : behindInMarks op b = false := by
  have e1 : (op == CmpOp.In) = false := by cases op <;> first | rfl | exact absurd rfl h
  have e2 : (op == CmpOp.NotIn) = false := by cases op <;> first | rfl | exact absurd rfl h2
  cases b <;> simp [behindInMarks, e1, e2]
def tCmp (p : Int → Int → Bool) (ta tb : TE) : TE := fun σ H Q => t2I ta tb (fun i j H2 => Q (.bl (p i j)) H2) σ H
abbrev tLt : TE → TE → TE := tCmp fun i j => decide (i < j)
abbrev tLe : TE → TE → TE := tCmp fun i j => decide (i ≤ j)
abbrev tGt : TE → TE → TE := tCmp fun i j => decide (j < i)
abbrev tGe : TE → TE → TE := tCmp fun i j => decide (j ≤ i)
abbrev tEqI : TE → TE → TE := tCmp fun i j => decide (i = j)
abbrev tNeI : TE → TE → TE := tCmp fun i j => !decide (i = j)
/-- a comparison of two ints, by its rule -/
theorem pc_int {op : CmpOp} {p : Int → Int → Bool} (ha : PE X a ta) (hb : PE X b tb)
    (rule : ∀ (i j : Int) (t u : Tok) (Q : Value → Shared → Prop) (s : Shared), Q (.bool (p i j)) s → wpAny (model X.prog X.w) X.A (compareOp op (.int i t) (.int j u)) Q X.xe s) : PC X op a b (tCmp p ta tb) := by
  intro pins s σ H Q I h
  refine bin ha hb I h fun v u s2 x y H2 I2 rx ry q => ?_
  obtain ⟨i, j, rfl, rfl, q⟩ := q
  obtain ⟨t, rfl⟩ := rx
  obtain ⟨t', rfl⟩ := ry
  exact rule i j t t' _ s2 ⟨.bl _, H2, I2, rfl, q⟩
theorem pc_lt (ha : PE X a ta) (hb : PE X b tb) : PC X .Lt a b (tLt ta tb) := pc_int ha hb fun _ _ _ _ _ _ h => lt_int h
theorem pc_le (ha : PE X a ta) (hb : PE X b tb) : PC X .LtE a b (tLe ta tb) := pc_int ha hb fun _ _ _ _ _ _ h => le_int h
theorem pc_gt (ha : PE X a ta) (hb : PE X b tb) : PC X .Gt a b (tGt ta tb) := pc_int ha hb fun _ _ _ _ _ _ h => gt_int h
theorem pc_ge (ha : PE X a ta) (hb : PE X b tb) : PC X .GtE a b (tGe ta tb) := pc_int ha hb fun _ _ _ _ _ _ h => ge_int h
theorem pc_eqI (ha : PE X a ta) (hb : PE X b tb) : PC X .Eq a b (tEqI ta tb) := pc_int ha hb fun _ _ _ _ _ _ h => eq_int (by rw [Bool.beq_eq_decide_eq]; exact h)
theorem pc_neI (ha : PE X a ta) (hb : PE X b tb) : PC X .NotEq a b (tNeI ta tb) := pc_int ha hb fun _ _ _ _ _ _ h => ne_int (by rw [bne, Bool.beq_eq_decide_eq]; exact h)
/-- is None -/
def tIsN (ta : TE) : TE := fun σ H Q => ta σ H fun x H1 => Q (.bl (decide (x = .non))) H1
def tNotN (ta : TE) : TE := fun σ H Q => ta σ H fun x H1 => Q (.bl (!decide (x = .non))) H1
theorem RelV.none_iff {x : V} {v : Value} (r : RelV x v) : (v == Value.none) = decide (x = .non) := by
  cases x with
  | old _ _ _ => obtain ⟨t, rfl, _⟩ := r; rfl
  | non => cases r; rfl
  | bl _ => cases r; rfl
  | int _ => obtain ⟨t, rfl⟩ := r; rfl
  | str _ => obtain ⟨t, rfl⟩ := r; rfl
  | byt _ => obtain ⟨t, rfl⟩ := r; rfl
  | flt _ => obtain ⟨t, rfl⟩ := r; rfl
  | ref _ => cases r; rfl
  | ty _ => cases r; rfl
theorem pc_isN {j pos'} (ha : PE X a ta) : PC X .Is a (.Constant .none j pos') (tIsN ta) := by
  intro pins s σ H Q I h
  refine thn (ha pins s σ H _ I h) fun v s1 ⟨x, H1, I1, r1, q1⟩ => ?_
  exact Constant_none (is_none_gen ⟨.bl _, H1, I1, by rw [r1.none_iff]; rfl, q1⟩)
theorem pc_notN {j pos'} (ha : PE X a ta) : PC X .IsNot a (.Constant .none j pos') (tNotN ta) := by
  intro pins s σ H Q I h
  refine thn (ha pins s σ H _ I h) fun v s1 ⟨x, H1, I1, r1, q1⟩ => ?_
  exact Constant_none (isnot_none_gen ⟨.bl _, H1, I1, by rw [r1.none_iff]; rfl, q1⟩)
/-- a comparison as a value, as a test -/
def tB (t : TE) : TT := fun σ H Q => t σ H fun x H1 => ∃ c, x = .bl c ∧ Q c H1
theorem pe_cmp {op : CmpOp} {t : TE} (h : PC X op a b t) (h1 : behindInMarks op b = false := by first | exact nobehind _ (by decide) (by decide) | rfl) : PE X (.Compare a [op] [b] pos) t := fun pins s σ H Q I hw => wpAny_Compare1 (h pins s σ H Q I hw) h1
theorem pt_cmp {op : CmpOp} {t : TE} (h : PC X op a b t) (h1 : behindInMarks op b = false := by first | exact nobehind _ (by decide) (by decide) | rfl) : PT X (.Compare a [op] [b] pos) (tB t) := by
  intro pins s σ H Q I hw
  refine wpAny_isTrue_Compare1 (thn (h pins s σ H _ I hw) fun v s1 h1 => thn h1 fun u s2 h2 => thn h2 fun c s3 ⟨x, H1, I1, r1, q1⟩ => ?_) h1
  obtain ⟨d, rfl, q⟩ := q1
  cases r1
  exact wpAny_truthy_bool ⟨H1, I1, q⟩
/-- an expression whose value is a bool, as a test -/
theorem pt_val {e : Expr} {t : TE} (h : PE X e t) (he : ∀ whole, isTrue e X.env whole = (do let v ← whole; standAt e.pos; holding [v] (truthy v)) := by intro _; rfl) : PT X e (tB t) := by
  intro pins s σ H Q I hw
  refine isTrue_plain (thn (h pins s σ H _ I hw) fun v s1 ⟨x, H1, I1, r1, q1⟩ => ?_) (he _)
  obtain ⟨d, rfl, q⟩ := q1
  cases r1
  exact wpAny_truthy_bool ⟨H1, I1, q⟩

/-! ### and, or, not -/
variable {tA tB' : TT} {rest : List Expr}
def tAnd (t u : TT) : TT := fun σ H Q => t σ H fun c H1 => if c = true then u σ H1 Q else Q false H1
def tOr (t u : TT) : TT := fun σ H Q => t σ H fun c H1 => if c = true then Q true H1 else u σ H1 Q
def tNot (t : TT) : TT := fun σ H Q => t σ H fun c H1 => Q (!c) H1
theorem pw_and1 (ha : PT X a tA) : PW X (.BoolOp .And [a] pos) tA := by
  intro wh pins s σ H Q I h
  refine isTrue_and (thn (ha pins s σ H Q I h) fun c s1 e => ?_)
  cases c with
  | true => exact isTrue_and_nil e
  | false => exact e
theorem pw_or1 (ha : PT X a tA) : PW X (.BoolOp .Or [a] pos) tA := by
  intro wh pins s σ H Q I h
  refine isTrue_or (thn (ha pins s σ H Q I h) fun c s1 e => ?_)
  cases c with
  | false => exact isTrue_or_nil e
  | true => exact e
theorem pw_and (ha : PT X a tA) (hb : PW X (.BoolOp .And (b :: rest) pos) tB') : PW X (.BoolOp .And (a :: b :: rest) pos) (tAnd tA tB') := by
  intro wh pins s σ H Q I h
  refine isTrue_and (thn (ha pins s σ H _ I h) fun c s1 ⟨H1, I1, q1⟩ => ?_)
  cases c with
  | true => exact hb wh pins s1 σ H1 Q I1 q1
  | false => exact ⟨H1, I1, q1⟩
theorem pw_or (ha : PT X a tA) (hb : PW X (.BoolOp .Or (b :: rest) pos) tB') : PW X (.BoolOp .Or (a :: b :: rest) pos) (tOr tA tB') := by
  intro wh pins s σ H Q I h
  refine isTrue_or (thn (ha pins s σ H _ I h) fun c s1 ⟨H1, I1, q1⟩ => ?_)
  cases c with
  | true => exact ⟨H1, I1, q1⟩
  | false => exact hb wh pins s1 σ H1 Q I1 q1
theorem pt_not (ha : PT X a tA) : PT X (.UnaryOp .Not a pos) (tNot tA) := by
  intro pins s σ H Q I h
  exact isTrue_not (ha pins s σ H (fun c H1 => Q (!c) H1) I h)
/-- .. as values (bools) -/
def tAndV (ta tb : TE) : TE := fun σ H Q => ta σ H fun x H1 => ∃ c, x = .bl c ∧ if c = true then tb σ H1 Q else Q (.bl false) H1
def tOrV (ta tb : TE) : TE := fun σ H Q => ta σ H fun x H1 => ∃ c, x = .bl c ∧ if c = true then Q (.bl true) H1 else tb σ H1 Q
def tNotV (ta : TE) : TE := fun σ H Q => ta σ H fun x H1 => ∃ c, x = .bl c ∧ Q (.bl (!c)) H1
theorem pe_one {op} {t : TE} (h : PE X a t) : PE X (.BoolOp op [a] pos) t := fun pins s σ H Q I hw => BoolOp_one (h pins s σ H Q I hw)
theorem pe_and (ha : PE X a ta) (hb : PE X (.BoolOp .And (b :: rest) pos) tb) : PE X (.BoolOp .And (a :: b :: rest) pos) (tAndV ta tb) := by
  intro pins s σ H Q I h
  refine BoolOp_and (thn (ha pins s σ H _ I h) fun v s1 ⟨x, H1, I1, r1, q1⟩ => ?_)
  obtain ⟨c, rfl, q1⟩ := q1
  cases r1
  refine wpAny_truthy_bool ?_
  cases c with
  | true => exact hb pins s1 σ H1 Q I1 q1
  | false => exact ⟨.bl false, H1, I1, rfl, q1⟩
theorem pe_or (ha : PE X a ta) (hb : PE X (.BoolOp .Or (b :: rest) pos) tb) : PE X (.BoolOp .Or (a :: b :: rest) pos) (tOrV ta tb) := by
  intro pins s σ H Q I h
  refine BoolOp_or (thn (ha pins s σ H _ I h) fun v s1 ⟨x, H1, I1, r1, q1⟩ => ?_)
  obtain ⟨c, rfl, q1⟩ := q1
  cases r1
  refine wpAny_truthy_bool ?_
  cases c with
  | false => exact hb pins s1 σ H1 Q I1 q1
  | true => exact ⟨.bl true, H1, I1, rfl, q1⟩
theorem pe_not (ha : PE X a ta) : PE X (.UnaryOp .Not a pos) (tNotV ta) := by
  intro pins s σ H Q I h
  refine UnaryOp_ (thn (ha pins s σ H _ I h) fun v s1 ⟨x, H1, I1, r1, q1⟩ => ?_)
  obtain ⟨c, rfl, q1⟩ := q1
  cases r1
  exact not_of (wpAny_truthy_bool ⟨.bl (!c), H1, I1, rfl, q1⟩)
/-- a if t else b -/
def tIf (t : TT) (ta tb : TE) : TE := fun σ H Q => t σ H fun c H1 => if c = true then ta σ H1 Q else tb σ H1 Q
theorem pe_ifExp {c : Expr} (hc : PT X c tA) (ha : PE X a ta) (hb : PE X b tb) : PE X (.IfExp c a b pos) (tIf tA ta tb) := by
  intro pins s σ H Q I h
  refine wpAny_IfExp (thn (hc pins s σ H _ I h) fun d s1 ⟨H1, I1, q1⟩ => ?_)
  cases d with
  | true => exact ha pins s1 σ H1 Q I1 q1
  | false => exact hb pins s1 σ H1 Q I1 q1
end
end L2

namespace L2
open PySem PySem.Spec PyProof.Rows

/-! ### a list, a tuple that is read: tracked, frozen, or an object of the module -/
def SqL (K : PySem.W.Frag) (H : Hp) (a : Addr) (xs : List V) : Prop :=
  Rd H a (.lst xs) ∨
    ∃ (o : Obj) (its : Array Value) (n : Nat), K.lookup a = some o ∧ o.cls = .type "list" ∧ o.dict = none ∧ o.data = .seq its n ∧ its.size ≤ sizeLine ∧ Vals xs its.toList ∧ ∀ x a n, V.old x a n ∉ xs
def SqT (K : PySem.W.Frag) (H : Hp) (a : Addr) (xs : List V) : Prop :=
  Rd H a (.tup xs) ∨
    ∃ (o : Obj) (its : Array Value) (n : Nat), K.lookup a = some o ∧ o.cls = .type "tuple" ∧ o.data = .seq its n ∧ its.size ≤ sizeLine ∧ Vals xs its.toList ∧ ∀ x a n, V.old x a n ∉ xs
def absV : Value → Option V
  | .none => some .non
  | .bool b => some (.bl b)
  | .int i _ => some (.int i)
  | .str x _ => some (.str x)
  | .bytes b _ => some (.byt b)
  | .float b _ => some (.flt b)
  | .ref a => some (.ref a)
  | .type n => some (.ty n)
  | _ => none
def NoOld (xs : List V) : Prop := ∀ x a n, V.old x a n ∉ xs
theorem RelV.abs {x : V} {u : Value} (r : RelV x u) (no : ∀ y a n, V.old y a n ≠ x) : absV u = some x := by
  cases x with
  | old y a n => exact absurd rfl (no y a n)
  | non => cases r; rfl
  | bl _ => cases r; rfl
  | int _ => obtain ⟨t, rfl⟩ := r; rfl
  | str _ => obtain ⟨t, rfl⟩ := r; rfl
  | byt _ => obtain ⟨t, rfl⟩ := r; rfl
  | flt _ => obtain ⟨t, rfl⟩ := r; rfl
  | ref _ => cases r; rfl
  | ty _ => cases r; rfl
theorem RelV.inj {x y : V} {u : Value} (r : RelV x u) (q : RelV y u) (n1 : ∀ z a n, V.old z a n ≠ x) (n2 : ∀ z a n, V.old z a n ≠ y) : x = y := Option.some.inj ((r.abs n1).symm.trans (q.abs n2))
theorem Vals.inj : ∀ {xs ys : List V} {us : List Value}, Vals xs us → Vals ys us → NoOld xs → NoOld ys → xs = ys
  | _, _, _, .nil, .nil, _, _ => rfl
  | _, _, _, .cons r t, .cons r' t', n1, n2 => by
    rw [r.inj r' (fun z a n e => n1 z a n (e ▸ List.mem_cons_self)) (fun z a n e => n2 z a n (e ▸ List.mem_cons_self)), Vals.inj t t' (fun z a n h => n1 z a n (List.mem_cons_of_mem _ h)) fun z a n h => n2 z a n (List.mem_cons_of_mem _ h)]
section
variable {X : Cx} {pins : List (Addr × Obj)} {σ : St} {H : Hp} {s : Shared} {a : Addr} {xs ys : List V}
theorem SqL.of {K : PySem.W.Frag} (h : H a = some (.lst xs)) : SqL K H a xs := .inl (.inl h)
theorem SqT.of {K : PySem.W.Frag} (h : H a = some (.tup xs)) : SqT K H a xs := .inl (.inl h)
theorem Inv.list (I : Inv X pins σ H s) (h : SqL X.K H a xs) : ∃ its : List Value, Vals xs its ∧ PlainL s.heap a its.toArray ∧ xs.length ≤ sizeLine := by
  rcases h with h | ⟨o, its, n, hk, hc, hd, hs, hz, r, _⟩
  · obtain ⟨z, its, n, r, e⟩ := h.ok I.hok
    exact ⟨its, r, ⟨_, n, e, rfl, rfl, rfl⟩, z⟩
  · refine ⟨its.toList, r, ⟨o, n, I.kIn a o hk, hc, hd, by simpa using hs⟩, ?_⟩
    have e := r.length
    simp only [Array.length_toList] at e
    omega
theorem Inv.tuple (I : Inv X pins σ H s) (h : SqT X.K H a xs) : ∃ its : List Value, Vals xs its ∧ IsTup s.heap a its.toArray ∧ xs.length ≤ sizeLine := by
  rcases h with h | ⟨o, its, n, hk, hc, hs, hz, r, _⟩
  · obtain ⟨z, its, r, p⟩ := h.ok I.hok
    exact ⟨its, r, p, z⟩
  · refine ⟨its.toList, r, ⟨o, I.kIn a o hk, hc, n, by simpa using hs⟩, ?_⟩
    have e := r.length
    simp only [Array.length_toList] at e
    omega
theorem Rd.one {u v : HO} (h : Rd H a u) (h' : Rd H a v) : (∃ o, u = .frz o v) ∨ (∃ o, v = .frz o u) ∨ u = v := by
  rcases h with h | ⟨o, h⟩
  · rcases h' with h' | ⟨o', h'⟩
    · rw [h] at h'; exact .inr (.inr (Option.some.inj h'))
    · rw [h] at h'; exact .inl ⟨o', Option.some.inj h'⟩
  · rcases h' with h' | ⟨o', h'⟩
    · rw [h] at h'; exact .inr (.inl ⟨o, (Option.some.inj h').symm⟩)
    · rw [h] at h'; cases Option.some.inj h'; exact .inr (.inr rfl)
theorem Inv.noRd (I : Inv X pins σ H s) {u : HO} {o : Obj} (h : Rd H a u) (hk : X.K.lookup a = some o) : False := by
  have n := (I.bs a o (I.mod.kin a o hk)).2
  rcases h with h | ⟨_, h⟩
  · rw [n] at h; cases h
  · rw [n] at h; cases h
theorem Inv.list_inj (I : Inv X pins σ H s) (h : SqL X.K H a xs) (h' : SqL X.K H a ys) : xs = ys := by
  rcases h with h | ⟨o, its, n, hk, _, _, d, _, r, no⟩
  · rcases h' with h' | ⟨o', its', n', hk', _⟩
    · rcases h.one h' with ⟨_, z⟩ | ⟨_, z⟩ | z
      · cases z
      · cases z
      · cases z; rfl
    · exact (I.noRd h hk').elim
  · rcases h' with h' | ⟨o', its', n', hk', _, _, d', _, r', no'⟩
    · exact (I.noRd h' hk).elim
    · rw [hk] at hk'; cases hk'
      rw [d] at d'; cases d'
      exact r.inj r' no no'
theorem Inv.tuple_inj (I : Inv X pins σ H s) (h : SqT X.K H a xs) (h' : SqT X.K H a ys) : xs = ys := by
  rcases h with h | ⟨o, its, n, hk, _, d, _, r, no⟩
  · rcases h' with h' | ⟨o', its', n', hk', _⟩
    · rcases h.one h' with ⟨_, z⟩ | ⟨_, z⟩ | z
      · cases z
      · cases z
      · cases z; rfl
    · exact (I.noRd h hk').elim
  · rcases h' with h' | ⟨o', its', n', hk', _, d', _, r', no'⟩
    · exact (I.noRd h' hk).elim
    · rw [hk] at hk'; cases hk'
      rw [d] at d'; cases d'
      exact r.inj r' no no'
end

/-! ### another wish about exceptions -/
abbrev Cx.wish (X : Cx) (E : Value → Shared → Prop) : Cx := { X with xe := E }
/-- no exception leaves -/
abbrev Cx.nox (X : Cx) : Cx := X.wish fun _ _ => False
theorem Cx.Ok.wish {X : Cx} (ok : X.Ok) (E : Value → Shared → Prop) : (X.wish E).Ok :=
  ⟨ok.mod, ok.kind, ok.glob, ok.blt, ok.above, ok.inj, ok.has, ok.cab, ok.hd, ok.frames, ok.stk, ok.exf, ok.bs, ok.bsz, ok.noex, ok.exfs, ok.funs, ok.frf⟩
theorem Cx.Ok.unwish {X : Cx} {E : Value → Shared → Prop} (ok : (X.wish E).Ok) : X.Ok :=
  ⟨ok.mod, ok.kind, ok.glob, ok.blt, ok.above, ok.inj, ok.has, ok.cab, ok.hd, ok.frames, ok.stk, ok.exf, ok.bs, ok.bsz, ok.noex, ok.exfs, ok.funs, ok.frf⟩
section
variable {X : Cx} {pins : List (Addr × Obj)} {σ : St} {H : Hp} {s : Shared} {E : Value → Shared → Prop}
theorem Inv.wish (I : Inv X pins σ H s) (E : Value → Shared → Prop) : Inv (X.wish E) pins σ H s := ⟨I.ok.wish E, I.os, I.bare, I.base, I.loc, I.cell, I.free, I.freeC, I.pin, I.hok, I.len⟩
theorem Inv.unwish (I : Inv (X.wish E) pins σ H s) : Inv X pins σ H s := ⟨I.ok.unwish, I.os, I.bare, I.base, I.loc, I.cell, I.free, I.freeC, I.pin, I.hok, I.len⟩
theorem SP.unwish {D : Ends} {f : Flow} {s' : Shared} (h : SP (X.wish E) pins D f s') : SP X pins D f s' := by
  cases f with
  | next => obtain ⟨σ', H', I, q⟩ := h; exact ⟨σ', H', I.unwish, q⟩
  | brk => obtain ⟨σ', H', I, q⟩ := h; exact ⟨σ', H', I.unwish, q⟩
  | cont => obtain ⟨σ', H', I, q⟩ := h; exact ⟨σ', H', I.unwish, q⟩
  | ret u => obtain ⟨v, σ', H', I, r, q⟩ := h; exact ⟨v, σ', H', I.unwish, r, q⟩
theorem PE.nox {e : Expr} {t : TE} (h : PE X.nox e t) : PE X e t := fun pins s σ H Q I hw =>
  wpAny_mono (h pins s σ H Q (I.wish _) hw) (fun _ _ ⟨v, H', I', r, q⟩ => ⟨v, H', I'.unwish, r, q⟩) fun _ _ z => False.elim z
theorem PT.nox {e : Expr} {t : TT} (h : PT X.nox e t) : PT X e t := fun pins s σ H Q I hw =>
  wpAny_mono (h pins s σ H Q (I.wish _) hw) (fun _ _ ⟨H', I', q⟩ => ⟨H', I'.unwish, q⟩) fun _ _ z => False.elim z
theorem PSs.nox {st : List Stmt} {t : TS} (h : PSs X.nox st t) : PSs X st t := fun pins s σ H D I hw =>
  wpAny_mono (h pins s σ H D (I.wish _) hw) (fun _ _ q => q.unwish) fun _ _ z => False.elim z
end

/-! ### blocks and small statements -/
section
variable {X : Cx} {st : Stmt} {rest : List Stmt} {t u : TS} {e : Expr} {te : TE} {pos : Pos}
def tNext : TS := fun D σ H => D.nx σ H
def tSeq (t u : TS) : TS := fun D σ H => t { D with nx := u D } σ H
theorem pss_nil : PSs X [] tNext := fun _ _ σ H _ I h => wpAny_execs_nil ⟨σ, H, I, h⟩
theorem pss_cons (h1 : PS X st t) (h2 : PSs X rest u) : PSs X (st :: rest) (tSeq t u) := by
  intro pins s σ H D I h
  refine wpAny_execs_cons (thn (h1 pins s σ H { D with nx := u D } I h) fun f s1 q => ?_)
  cases f with
  | next =>
    obtain ⟨σ', H', I', q⟩ := q
    exact h2 pins s1 σ' H' D I' q
  | ret v => exact q
  | brk => exact q
  | cont => exact q
theorem pss_one (h1 : PS X st t) : PSs X [st] t := by
  intro pins s σ H D I h
  refine wpAny_execs_cons (thn (h1 pins s σ H D I h) fun f s1 q => ?_)
  cases f with
  | next => exact wpAny_execs_nil q
  | ret v => exact q
  | brk => exact q
  | cont => exact q
def tBreak : TS := fun D σ H => D.bk σ H
def tCont : TS := fun D σ H => D.ct σ H
theorem ps_pass : PS X (.Pass pos) tNext := fun _ _ σ H _ I h => wpAny_Pass ⟨σ, H, I, h⟩
theorem ps_break : PS X (.Break pos) tBreak := fun _ _ σ H _ I h => wpAny_Break ⟨σ, H, I, h⟩
theorem ps_continue : PS X (.Continue pos) tCont := fun _ _ σ H _ I h => wpAny_Continue ⟨σ, H, I, h⟩
/-- in a def's body nothing is shown -/
theorem Inv.quiet {pins : List (Addr × Obj)} {σ : St} {H : Hp} {s : Shared} (I : Inv X pins σ H s) : interactive X.env = false := by simp [interactive, I.ok.kind]
/-- a docstring -/
theorem ps_doc {x j pos pos'} : PS X (.Expr (.Constant (.str x) j pos) pos') tNext := fun _ s σ H _ I h => wpAny_Expr (Calls.Constant_str (show SP X _ _ .next { s with toks := s.toks + 1 } from ⟨σ, H, I.tok _, h⟩)) I.quiet
/-- an expression whose value is dropped -/
def tDrop (te : TE) : TS := fun D σ H => te σ H fun _ H1 => D.nx σ H1
theorem ps_expr (he : PE X e te) (hs : swapsWith e none pos.line X.env = pure false := by rfl) : PS X (.Expr e pos) (tDrop te) := by
  intro pins s σ H D I h
  exact wpAny_Expr_any (thn (he pins s σ H _ I h) fun v s1 ⟨x, H1, I1, r1, q1⟩ => ⟨σ, H1, I1, q1⟩) I.quiet hs
def tRet (te : TE) : TS := fun D σ H => te σ H D.rt
theorem ps_ret (he : PE X e te) : PS X (.Return (some e) pos) (tRet te) := by
  intro pins s σ H D I h
  exact wpAny_Return_some (thn (he pins s σ H _ I h) fun v s1 ⟨x, H1, I1, r1, q1⟩ => ⟨x, σ, H1, I1, r1, q1⟩)
def tRetN : TS := fun D _ H => D.rt .non H
theorem ps_retN : PS X (.Return none pos) tRetN := fun _ _ σ H _ I h => wpAny_Return_none ⟨.non, σ, H, I, rfl, h⟩
def tIfS (c : TT) (t u : TS) : TS := fun D σ H => c σ H fun b H1 => if b = true then t D σ H1 else u D σ H1
theorem ps_if {c : Expr} {a b : List Stmt} {tc : TT} (hc : PT X c tc) (ha : PSs X a t) (hb : PSs X b u) : PS X (.If c a b pos) (tIfS tc t u) := by
  intro pins s σ H D I h
  refine wpAny_If (thn (hc pins s σ H _ I h) fun d s1 ⟨H1, I1, q1⟩ => ?_)
  cases d with
  | true => exact ha pins s1 σ H1 D I1 q1
  | false => exact hb pins s1 σ H1 D I1 q1
/-- code that the proof never comes to -/
def tNever : TS := fun _ _ _ => False
theorem ps_never : PS X st tNever := fun _ _ _ _ _ _ h => h.elim
theorem pss_never {sts : List Stmt} : PSs X sts tNever := fun _ _ _ _ _ _ h => h.elim
end

/-! ### targets -/
abbrev TG := V → St → Hp → (St → Hp → Prop) → Prop
abbrev TGs := List V → St → Hp → (St → Hp → Prop) → Prop
def PG (X : Cx) (target : Expr) (t : TG) : Prop :=
  ∀ (pins : List (Addr × Obj)) (s : Shared) (σ : St) (H : Hp) (v : V) (u : Value) (Q : St → Hp → Prop), Inv X pins σ H s → RelV v u → t v σ H Q →
    wpAny (model X.prog X.w) X.A (assign target X.env u) (fun _ s' => ∃ σ' H', Inv X pins σ' H' s' ∧ Q σ' H') X.xe s
/-- several targets, one after another -/
def PGs (X : Cx) (ts : List Expr) (t : TGs) : Prop :=
  ∀ (pins : List (Addr × Obj)) (s : Shared) (σ : St) (H : Hp) (vs : List V) (us : List Value) (Q : St → Hp → Prop), Inv X pins σ H s → Vals vs us → t vs σ H Q →
    wpAny (model X.prog X.w) X.A (assignInOrder ((assignEach ts X.env).map (·.2)) us) (fun _ s' => ∃ σ' H', Inv X pins σ' H' s' ∧ Q σ' H') X.xe s
/-- o[i] = v, by values -/
abbrev TSet := V → V → V → Hp → (Hp → Prop) → Prop
def PSet (X : Cx) (t : TSet) : Prop :=
  ∀ (pins : List (Addr × Obj)) (s : Shared) (σ : St) (H : Hp) (o i v : V) (ov iv u : Value) (Q : Hp → Prop), Inv X pins σ H s → RelV o ov → RelV i iv → RelV v u → t o i v H Q →
    wpAny (model X.prog X.w) X.A (setItem ov iv u) (fun _ s' => ∃ H', Inv X pins σ H' s' ∧ Q H') X.xe s
/-- a op= b, by values -/
abbrev TIp := V → V → Hp → VK → Prop
def PIp (X : Cx) (op : Operator) (t : TIp) : Prop :=
  ∀ (pins : List (Addr × Obj)) (s : Shared) (σ : St) (H : Hp) (x y : V) (v u : Value) (Q : VK), Inv X pins σ H s → RelV x v → RelV y u → t x y H Q →
    wpAny (model X.prog X.w) X.A (inplaceOp op v u) (EP X pins σ Q) X.xe s
section
variable {X : Cx} {pos : Pos}
def gName (i : Nat) : TG := fun v σ H Q => Q (σ.set i (some v)) H
theorem pg_name {i : Nat} {x : Str} (hN : X.N.Nodup) (hi : X.N[i]? = some x) (hx : Loc X.env.scope x) (hf : X.fn x = true ∨ X.env.scope.names.lookup x = some .local := by first | exact .inl rfl | exact .inr rfl | assumption) : PG X (.Name x pos) (gName i) := by
  intro pins s σ H v u Q I r h
  exact wpAny_assign_Name (store_ok I hN hi hx r (fun s' I' => ⟨_, H, I', h⟩) hf)
def gNil : TGs := fun vs σ H Q => vs = [] ∧ Q σ H
def gCons (t : TG) (u : TGs) : TGs := fun vs σ H Q => ∃ v r, vs = v :: r ∧ t v σ H fun σ' H' => u r σ' H' Q
theorem pgs_nil : PGs X [] gNil := by
  intro pins s σ H vs us Q I r h
  obtain ⟨e, h⟩ := h
  subst e
  cases r
  exact assignInOrder_nil ⟨σ, H, I, h⟩
theorem pgs_cons {e : Expr} {es : List Expr} {t : TG} {u : TGs} (h1 : PG X e t) (h2 : PGs X es u)
    (hs : (assignEach (e :: es) X.env).map (·.2) = assign e X.env :: (assignEach es X.env).map (·.2) := by rfl) : PGs X (e :: es) (gCons t u) := by
  intro pins s σ H vs us Q I r h
  obtain ⟨v, vr, e1, h⟩ := h
  subst e1
  cases r with
  | cons r rr =>
    rw [hs]
    refine assignInOrder_cons (thn (h1 pins s σ H _ _ _ I r h) fun _ s1 ⟨σ1, H1, I1, q1⟩ => ?_)
    exact h2 pins s1 σ1 H1 _ _ Q I1 rr q1
/-- (a, b, ..) = a tuple of that length -/
def gTup (K : PySem.W.Frag) (n : Nat) (t : TGs) : TG := fun v σ H Q => ∃ a xs, v = .ref a ∧ SqT K H a xs ∧ xs.length = n ∧ t xs σ H Q
theorem pg_tup {es : List Expr} {k : Nat} {t : TGs} {n : Nat} (hc : X.calm = true) (h : PGs X es t)
    (hn : (assignEach es X.env).length = n := by rfl) (hst : (assignEach es X.env).findIdx? (·.1) = none := by rfl) : PG X (.Tuple es k pos) (gTup X.K n t) := by
  intro pins s σ H v u Q I r hw
  obtain ⟨a, xs, e1, hq, hl, hw⟩ := hw
  subst e1
  cases r
  obtain ⟨its, rv, ht, hz⟩ := I.tuple hq
  refine assign_Tuple_tuple (I.ok.hd hc) ht (by simp [hn, ← hl, rv.length]) hst fun h' hx => ?_
  have I1 : Inv X pins σ H { s with heap := h' } := I.kept (t' := s.toks) fun b o e => hx b o (Nat.ne_of_lt (Heap.lt_size e)) e
  exact h pins _ σ H xs _ Q I1 (by simpa using rv) hw
/-- o[i] = .. -/
def gSub (to ti : TE) (t : TSet) : TG := fun v σ H Q => to σ H fun o H1 => ti σ H1 fun i H2 => t o i v H2 fun H3 => Q σ H3
theorem pg_sub {o i : Expr} {to ti : TE} {t : TSet} (ho : PE X o to) (hi : PE X i ti) (hs : PSet X t)
    (ha : ∀ v, assign (.Subscript o i pos) X.env v = (do
      let ov ← holding [v] (eval o X.env)
      let iv ← holding [v, ov] (eval i X.env)
      standAt pos
      holding [v, ov, iv] (setItem ov iv v)
      release [v, ov, iv] []) := by intro _; rfl) : PG X (.Subscript o i pos) (gSub to ti t) := by
  intro pins s σ H v u Q I r h
  rw [ha]
  refine wpAny_bind (wpAny_holding (thn (ho pins s σ H _ I h) fun ov s1 ⟨x, H1, I1, r1, q1⟩ => ?_))
  refine wpAny_bind (wpAny_holding (thn (hi pins s1 σ H1 _ I1 q1) fun iv s2 ⟨y, H2, I2, r2, q2⟩ => ?_))
  refine wpAny_bind (wpAny_standAt (wpAny_bind (wpAny_holding (thn (hs pins s2 σ H2 x y v ov iv u _ I2 r1 r2 r q2) fun _ s3 ⟨H3, I3, q3⟩ => ?_))))
  exact wpAny_release ⟨σ, H3, I3, q3⟩
/-- target = value -/
def tAsg (te : TE) (g : TG) : TS := fun D σ H => te σ H fun x H1 => g x σ H1 D.nx
theorem ps_asg {tg e : Expr} {te : TE} {g : TG} (he : PE X e te) (hg : PG X tg g) (hs : swapsWithSole [tg] e pos.line X.env = pure false := by rfl) (hw : swappedStores [tg] e X.env = pure none := by rfl)
    (h1 : (assignEach [tg] X.env).map (·.2) = [assign tg X.env] := by rfl) : PS X (.Assign [tg] e pos) (tAsg te g) := by
  intro pins s σ H D I h
  refine wpAny_Assign_stores (thn (he pins s σ H _ I h) fun v s1 ⟨x, H1, I1, r1, q1⟩ => ?_) hs hw
  rw [h1]
  exact thn (hg pins s1 σ H1 x v _ I1 r1 q1) fun _ s2 q => q
/-- name = value -/
theorem ps_set {i : Nat} {x : Str} {e : Expr} {te : TE} {pos' : Pos} (hN : X.N.Nodup) (hi : X.N[i]? = some x) (hx : Loc X.env.scope x) (he : PE X e te) (hs : swapsWith e (some (.Name x pos')) pos.line X.env = pure false := by rfl) (hf : X.fn x = true ∨ X.env.scope.names.lookup x = some .local := by first | exact .inl rfl | exact .inr rfl | assumption) :
    PS X (.Assign [.Name x pos'] e pos) (tAsg te (gName i)) := by
  intro pins s σ H D I h
  refine wpAny_Assign_Name (thn (he pins s σ H _ I h) fun v s1 ⟨y, H1, I1, r1, q1⟩ => ?_) hs
  exact store_ok I1 hN hi hx r1 (fun s2 I2 => ⟨_, H1, I2, q1⟩) hf
/-- a, b = x, y with plain local names: stored from the right; the pair itself is not tracked (the opening rows as in PyProof/Rows/TupAssign.lean:23) -/
def tPar (i j : Nat) (ta : TA) : TS := fun D σ H => ta σ H fun vs H1 => ∃ v w, vs = [v, w] ∧ D.nx ((σ.set i (some v)).set j (some w)) H1
theorem ps_par {i j : Nat} {x y : Str} {a b : Expr} {ta : TA} {px py pt : Pos} {kt k2 pt2} (hc : X.calm = true) (hN : X.N.Nodup) (hi : X.N[i]? = some x) (hj : X.N[j]? = some y) (hij : i ≠ j)
    (hx : X.env.scope.names.lookup x = some .local) (hy : X.env.scope.names.lookup y = some .local) (ha : PA X [a, b] ta)
    (hw : swappedStores [.Tuple [.Name x px, .Name y py] kt pt] (.Tuple [a, b] k2 pt2) X.env = pure (some [x, y]))
    (hs : swapsWithSole [.Tuple [.Name x px, .Name y py] kt pt] (.Tuple [a, b] k2 pt2) pos.line X.env = pure false := by rfl) :
    PS X (.Assign [.Tuple [.Name x px, .Name y py] kt pt] (.Tuple [a, b] k2 pt2) pos) (tPar i j ta) := by
  intro pins s σ H D I h
  rw [exec_Assign_arm]
  refine wpAny_bind (wpAny_standAt ?_)
  rw [hs]
  refine wpAny_bind (wpAny_pure ?_)
  rw [if_neg (by decide)]
  refine wpAny_bind (Tuple_ (thn (ha _ pins s σ H _ I h) fun us s1 ⟨vs, H1, I1, r1, q1⟩ => ?_))
  obtain ⟨v, w, e1, q1⟩ := q1
  subst e1
  obtain ⟨u1, u2, rfl, rv, rw'⟩ : ∃ u1 u2, us = [u1, u2] ∧ RelV v u1 ∧ RelV w u2 := by
    cases r1 with
    | cons p q =>
      cases q with
      | cons p' q' =>
        cases q'
        exact ⟨_, _, rfl, p, p'⟩
  refine wpAny_newObj_type ?_ (by show 2 ≤ sizeLine; decide)
  have I2 : Inv X pins σ H1 { s1 with heap := s1.heap.push { cls := .type "tuple", data := .seq [u1, u2].toArray } } := I1.kept (t' := s1.toks) fun b o e => Heap.get?_push_of_some _ e
  rw [hw]
  refine wpAny_bind (wpAny_pure ?_)
  show wpAny (model X.prog X.w) X.A (do rule "assign.swapped-stores"; let items ← unpackItems (.ref s1.heap.objs.size) 2 none; assignInOrder [fun v => bindName X.env y v, fun v => bindName X.env x v] items.reverse; pure Flow.next) _ _ _
  refine wpAny_bind (wpAny_rule (wpAny_bind (unpackItems_tuple (items := #[u1, u2]) (I.ok.hd hc) (IsTup.new s1.heap _) fun h' hx' => ?_)))
  have I3 := I2.kept (h' := h') (t' := s1.toks) fun b o e => hx' b o (Nat.ne_of_lt (Heap.lt_size e)) e
  show wpAny _ _ (assignInOrder [fun v => bindName X.env y v, fun v => bindName X.env x v] [u2, u1] >>= fun _ => pure Flow.next) _ _ _
  refine wpAny_bind (assignInOrder_cons (wpAny_bindName (store_ok I3 hN hj (.inl hy) rw' (fun s2 I4 => ?_) (.inr hy))))
  refine assignInOrder_cons (wpAny_bindName (store_ok I4 hN hi (.inl hx) rv (fun s3 I5 => assignInOrder_nil (wpAny_pure ?_)) (.inr hx)))
  rw [List.set_comm _ _ (Ne.symm hij)] at I5
  exact ⟨_, H1, I5, q1⟩
/-- name op= e -/
def tAug (i : Nat) (te : TE) (ti : TIp) : TS := fun D σ H => ∃ x, σ[i]? = some (some x) ∧ te σ H fun y H1 => ti x y H1 fun z H2 => D.nx (σ.set i (some z)) H2
theorem ps_aug {i : Nat} {x : Str} {e : Expr} {te : TE} {op : Operator} {ti : TIp} {pos' : Pos} (hN : X.N.Nodup) (hi : X.N[i]? = some x) (hx : Loc X.env.scope x) (he : PE X e te) (ho : PIp X op ti) (hf : X.fn x = true ∨ X.env.scope.names.lookup x = some .local := by first | exact .inl rfl | exact .inr rfl | assumption) :
    PS X (.AugAssign (.Name x pos') op e pos) (tAug i te ti) := by
  intro pins s σ H D I h
  obtain ⟨v, e1, h⟩ := h
  obtain ⟨m, hn, hl⟩ := I.loc
  have vis : Vis X.env.scope x := by rcases hx with k | k; exact .inl k; exact .inr (.inl k)
  obtain ⟨u, r, l⟩ := hl i x v hi e1 vis
  refine wpAny_AugAssign_Name ?_
  have go : wpAny (model X.prog X.w) X.A (eval e X.env) (fun w s₂ => wpAny (model X.prog X.w) X.A (inplaceOp op u w) (fun r s₃ => wpAny (model X.prog X.w) X.A (storeName X.env x r) (fun _ => SP X pins D .next) X.xe s₃) X.xe s₂) X.xe s := by
    refine thn (he pins s σ H _ I h) fun w s1 ⟨y, H1, I1, r1, q1⟩ => ?_
    refine thn (ho pins s1 σ H1 v y u w _ I1 r r1 q1) fun z s2 ⟨zv, H2, I2, r2, q2⟩ => ?_
    exact store_ok I2 hN hi hx r2 (fun s3 I3 => ⟨_, H2, I3, q2⟩) hf
  rcases l with ⟨hk, hm⟩ | ⟨hk, c, hc, hcell⟩
  · exact wpAny_loadName_local I.ok.kind hk hn hm go
  · rcases hk with hk | hk
    · exact wpAny_loadName_cell I.ok.kind hk hc hcell go
    · rcases hx with k | k
      · have : X.env.scope.names.lookup x = some .free := hk
        rw [k] at this; cases this
      · have : X.env.scope.names.lookup x = some .free := hk
        rw [k] at this; cases this
/-- o[i] op= e -/
def tAugS (to ti te : TE) (tget : V → V → Hp → VK → Prop) (tip : TIp) (tset : TSet) : TS := fun D σ H => to σ H fun o H1 => ti σ H1 fun i H2 => tget o i H2 fun x H3 => te σ H3 fun y H4 => tip x y H4 fun z H5 => tset o i z H5 fun H6 => D.nx σ H6
/-- o[i], by values -/
def PGet (X : Cx) (t : V → V → Hp → VK → Prop) : Prop :=
  ∀ (pins : List (Addr × Obj)) (s : Shared) (σ : St) (H : Hp) (o i : V) (ov iv : Value) (Q : VK), Inv X pins σ H s → RelV o ov → RelV i iv → t o i H Q →
    wpAny (model X.prog X.w) X.A (getItem ov iv) (EP X pins σ Q) X.xe s
theorem ps_augS {o i e : Expr} {to ti te : TE} {tget : V → V → Hp → VK → Prop} {tip : TIp} {tset : TSet} {op : Operator} {tpos : Pos} (ho : PE X o to) (hi : PE X i ti) (hg : PGet X tget) (he : PE X e te) (hp : PIp X op tip) (hs : PSet X tset)
    (ha : ∀ ov iv new, augStore i ov iv new = (do holding [new, ov, iv] (setItem ov iv new); release [new, ov, iv] []; pure .next) := by intros; rfl) : PS X (.AugAssign (.Subscript o i tpos) op e pos) (tAugS to ti te tget tip tset) := by
  intro pins s σ H D I h
  refine wpAny_AugAssign_SubscriptAny (thn (ho pins s σ H _ I h) fun ov s1 ⟨x1, H1, I1, r1, q1⟩ => ?_) ha
  refine thn (hi pins s1 σ H1 _ I1 q1) fun iv s2 ⟨x2, H2, I2, r2, q2⟩ => ?_
  refine thn (hg pins s2 σ H2 x1 x2 ov iv _ I2 r1 r2 q2) fun old s3 ⟨x3, H3, I3, r3, q3⟩ => ?_
  refine thn (he pins s3 σ H3 _ I3 q3) fun v s4 ⟨x4, H4, I4, r4, q4⟩ => ?_
  refine thn (hp pins s4 σ H4 x3 x4 old v _ I4 r3 r4 q4) fun new s5 ⟨x5, H5, I5, r5, q5⟩ => ?_
  exact thn (hs pins s5 σ H5 x1 x2 x5 ov iv new _ I5 r1 r2 r5 q5) fun _ s6 ⟨H6, I6, q6⟩ => ⟨σ, H6, I6, q6⟩
/-- ints -/
def ipI (f : Int → Int → Int) : TIp := fun x y H Q => ∃ i j, x = .int i ∧ y = .int j ∧ Q (.int (f i j)) H
theorem ip_add : PIp X .Add (ipI fun i j => i + j) := by
  intro pins s σ H x y v u Q I r1 r2 h
  obtain ⟨i, j, e1, e2, q⟩ := h
  subst e1; subst e2
  obtain ⟨t, rfl⟩ := r1
  obtain ⟨t', rfl⟩ := r2
  exact iadd_int ⟨.int _, H, I.tok _, ⟨_, rfl⟩, q⟩
theorem ip_sub : PIp X .Sub (ipI fun i j => i - j) := by
  intro pins s σ H x y v u Q I r1 r2 h
  obtain ⟨i, j, e1, e2, q⟩ := h
  subst e1; subst e2
  obtain ⟨t, rfl⟩ := r1
  obtain ⟨t', rfl⟩ := r2
  exact isub_int ⟨.int _, H, I.tok _, ⟨_, rfl⟩, q⟩
end

/-! ### while -/
section
variable {X : Cx} {pos : Pos}
/-- the invariant W with its measure -/
def tWhile (c : TT) (tb : TS) : TS := fun D σ H => ∃ W : Nat → St → Hp → Prop, (∃ m, W m σ H) ∧ ∀ m σ H, W m σ H →
  c σ H fun b H1 => if b = true then ∃ N : St → Hp → Prop, (∀ σ' H', N σ' H' → ∃ m', m' < m ∧ W m' σ' H') ∧ tb { D with nx := N, ct := N, bk := D.nx } σ H1 else D.nx σ H1
theorem ps_while {c : Expr} {body : List Stmt} {tc : TT} {tb : TS} (hp : PassesOwn (model X.prog X.w) X.A X.env X.xe) (hc : PT X c tc) (hb : PSs X body tb) : PS X (.While c body [] pos) (tWhile tc tb) := by
  intro pins s σ H D I h
  obtain ⟨W, ⟨m0, w0⟩, turn⟩ := h
  refine wpAny_While (codeAny_whileLoop (fun n s' => ∃ σ' H', Inv X pins σ' H' s' ∧ W n σ' H') ?_ m0 ⟨σ, H, I, w0⟩)
  rintro n s1 ⟨σ1, H1, I1, w1⟩
  refine wpAny_passesOwn hp (thn (hc pins s1 σ1 H1 _ I1 (turn n σ1 H1 w1)) fun b s2 ⟨H2, I2, q2⟩ => ?_)
  cases b with
  | true =>
    obtain ⟨N, hN, q2⟩ := q2
    rw [if_pos rfl]
    refine wpAny_passesOwn hp (thn (hb pins s2 σ1 H2 _ I2 q2) fun f s3 q3 => ?_)
    cases f with
    | next =>
      obtain ⟨σ3, H3, I3, n3⟩ := q3
      obtain ⟨m', hm, w3⟩ := hN σ3 H3 n3
      exact ⟨m', hm, σ3, H3, I3, w3⟩
    | cont =>
      obtain ⟨σ3, H3, I3, n3⟩ := q3
      obtain ⟨m', hm, w3⟩ := hN σ3 H3 n3
      exact ⟨m', hm, σ3, H3, I3, w3⟩
    | brk => exact q3
    | ret v => exact q3
  | false =>
    rw [if_neg Bool.false_ne_true]
    exact wpAny_execs_nil ⟨σ1, H2, I2, q2⟩
end

/-! ### what a loop or a comprehension walks -/
/-- at turn i: it yields x (the heap may grow), or it stops -/
structure It where
  go : Nat → Hp → Prop
  yld : Nat → Hp → V → Hp → Prop
  stop : Nat → Hp → Prop
/-- the iterator's own objects may turn: they are not the frame's, not pinned, younger than the entry (or a comprehension's own) -/
def FpOk (X : Cx) (pins : List (Addr × Obj)) (H : Hp) (b : Addr) : Prop :=
  H b = none ∧ b ≠ X.env.locals ∧ b ∉ X.fs ∧ (b ∈ X.ex ∨ X.s₀.heap.objs.size ≤ b) ∧ (∀ x c, X.env.cells.lookup x = some c → c ≠ b) ∧ ∀ p ∈ X.pn ++ pins, p.1 ≠ b
theorem Inv.fpOk {X : Cx} {pins : List (Addr × Obj)} {σ : St} {H H' : Hp} {s : Shared} {b : Addr} (I : Inv X pins σ H s) (hb : s.heap.objs.size ≤ b) (hn : H' b = none) : FpOk X pins H' b := by
  refine ⟨hn, Nat.ne_of_gt (Nat.lt_of_lt_of_le I.lt hb), I.nofs hb, .inr (Nat.le_trans I.sz hb), fun x c e z => ?_, fun p hp z => ?_⟩
  · obtain ⟨v, q⟩ := I.cell x c e
    exact absurd (Nat.lt_of_lt_of_le q.lt (by rw [z]; exact hb)) (Nat.lt_irrefl _)
  · exact absurd (Nat.lt_of_lt_of_le (Heap.lt_size (I.pin p hp).1) (by rw [z]; exact hb)) (Nat.lt_irrefl _)
structure Turn (P : Program) (w : World) (K : PySem.W.Frag) (tg : Expr) (J : It) (fp : List Addr) (it : Addr) (tn : Nat → Heap → Prop) : Prop where
  mem : it ∈ fp
  obj : ∀ i h, tn i h → ∀ b ∈ fp, ∃ o, h.get? b = some o ∧ ∀ v, o.data ≠ .cell v
  keep : ∀ i h h', tn i h → (∀ b ∈ fp, ∀ o, h.get? b = some o → h'.get? b = some o) → tn i h'
  item : ∀ (X : Cx), X.prog = P → X.w = w → X.K = K → X.calm = true → ∀ (i : Nat) (pins : List (Addr × Obj)) (s : Shared) (σ : St) (H : Hp) (E : Value → Shared → Prop), Inv X pins σ H s → (∀ b ∈ fp, FpOk X pins H b) → tn i s.heap → J.go i H →
    wpAny (model P w) X.A (pyNext (.ref it)) (fun r s1 => ∃ u, r = some u ∧
      wpAny (model P w) X.A (letOwnedTupleGo tg (.ref it) u) (fun _ s2 => ∃ x H', Inv X pins σ H' s2 ∧ RelV x u ∧ J.yld i H x H' ∧ tn (i + 1) s2.heap ∧ ∀ b ∈ fp, H' b = none) E s1) E s
  done : ∀ (X : Cx), X.prog = P → X.w = w → X.K = K → X.calm = true → ∀ (i : Nat) (pins : List (Addr × Obj)) (s : Shared) (σ : St) (H : Hp) (E : Value → Shared → Prop), Inv X pins σ H s → (∀ b ∈ fp, FpOk X pins H b) → tn i s.heap → J.stop i H →
    wpAny (model P w) X.A (pyNext (.ref it)) (fun r s1 => r = none ∧ Inv X pins σ H s1) E s
  self : ∀ (A : Around) (i : Nat) (s : Shared) (Q : Value → Shared → Prop) (E : Value → Shared → Prop), tn i s.heap → Q (.ref it) s → wpAny (model P w) A (pyIter (.ref it)) Q E s
abbrev TI := St → Hp → (It → Hp → Prop) → Prop
/-- an iterator has come -/
def PIE (X : Cx) (pins : List (Addr × Obj)) (σ : St) (tg : Expr) (R : It → Hp → Prop) (itv : Value) (s2 : Shared) : Prop :=
  ∃ (it : Addr) (fp : List Addr) (tn : Nat → Heap → Prop) (J : It) (H' : Hp), itv = .ref it ∧ Inv X pins σ H' s2 ∧ Turn X.prog X.w X.K tg J fp it tn ∧ tn 0 s2.heap ∧ (∀ b ∈ fp, FpOk X pins H' b) ∧ R J H'
def PI (X : Cx) (tg iter : Expr) (wi : TI) : Prop :=
  ∀ (pins : List (Addr × Obj)) (s : Shared) (σ : St) (H : Hp) (R : It → Hp → Prop), Inv X pins σ H s → wi σ H R →
    wpAny (model X.prog X.w) X.A (eval iter X.env) (fun v s1 => wpAny (model X.prog X.w) X.A (pyIter v) (PIE X pins σ tg R) X.xe s1) X.xe s

/-- the step ahead of the store is nothing for an iterator that keeps no tuple -/
theorem go_of {M : Model} {A : Around} {E : Value → Shared → Prop} {s : Shared} {tg : Expr} {it : Addr} {u : Value} {o : Obj} {n : String} {vs : Array Value} {Q : Unit → Shared → Prop} (ho : s.heap.get? it = some o) (hc : o.cls = .type n) (hd : o.data = .fields vs)
    (hn : ["enumerate", "zip", "dict_itemiterator", "dict_reverseitemiterator", "odict_iterator", "itertools.zip_longest", "itertools.pairwise"].contains n = false) (hQ : Q () s) : wpAny M A (letOwnedTupleGo tg (.ref it) u) Q E s := by
  unfold letOwnedTupleGo
  cases tg <;> first
    | exact wpAny_pure hQ
    | (cases u <;> first
        | exact wpAny_pure hQ
        | (refine wpAny_bind (wpAny_load ho ?_)
           rw [hc, hd]
           show wpAny M A (if (["enumerate", "zip", "dict_itemiterator", "dict_reverseitemiterator", "odict_iterator", "itertools.zip_longest", "itertools.pairwise"].contains n && vs[0]? == some (rawInt _)) = true then _ else _) Q E s
           rw [if_neg (by intro h; rw [hn, Bool.false_and] at h; cases h)]
           exact wpAny_pure hQ))

/-- the list at a, as it stands at each turn (a loop may append to it) -/
def Itl (K : PySem.W.Frag) (a : Addr) : It :=
  ⟨fun i H => ∃ xs x, SqL K H a xs ∧ xs[i]? = some x, fun i H x H' => H' = H ∧ ∀ xs, SqL K H a xs → xs[i]? = some x, fun i H => ∃ xs, SqL K H a xs ∧ xs.length ≤ i⟩
def Itt (K : PySem.W.Frag) (a : Addr) : It :=
  ⟨fun i H => ∃ xs x, SqT K H a xs ∧ xs[i]? = some x, fun i H x H' => H' = H ∧ ∀ xs, SqT K H a xs → xs[i]? = some x, fun i H => ∃ xs, SqT K H a xs ∧ xs.length ≤ i⟩
/-- lo, lo + 1, .. (n of them) -/
def Itr (lo : Int) (n : Nat) : It := ⟨fun i _ => i < n, fun i H x H' => H' = H ∧ x = .int (lo + i), fun i _ => n ≤ i⟩
theorem turn_list {P : Program} {w : World} {K : PySem.W.Frag} {tg : Expr} (a it : Addr) : Turn P w K tg (Itl K a) [it] it (fun i h => h.IsListIter it a i) where
  mem := by simp
  obj := fun i h st b hb => by
    have e : b = it := by simpa using hb
    subst e
    obtain ⟨o, e, c, d⟩ := st
    exact ⟨o, e, fun v z => by rw [d] at z; cases z⟩
  keep := fun i h h' st k => st.at fun o e => k it (by simp) o e
  item := by
    intro X hP hw hK hc i pins s σ H E I hf st hg
    subst hP hw hK
    obtain ⟨xs, x, hq, hx⟩ := hg
    obtain ⟨its, rv, p, hz⟩ := I.list hq
    obtain ⟨u, hu, ru⟩ := rv.get hx
    obtain ⟨f0, f1, f2, f3, f4, f5⟩ := hf it (by simp)
    refine wpAny_pyNext_list_item st p.isList (x := u) (by simpa using hu) fun h' st' sb => ?_
    have I1 : Inv X pins σ H { s with heap := h' } := I.turned (t' := s.toks) (fun b o hb e => (sb.2 b hb).trans e) f0 f1 f3 f4 f5
    obtain ⟨o, e, c, d⟩ := id st'
    exact ⟨u, rfl, go_of (s := { s with heap := h' }) e c d (by decide) ⟨x, H, I1, ru, ⟨rfl, fun ys hy => by rw [I.list_inj hy hq]; exact hx⟩, st', fun b hb => (hf b hb).1⟩⟩
  done := by
    intro X hP hw hK hc i pins s σ H E I hf st hg
    subst hP hw hK
    obtain ⟨xs, hq, hx⟩ := hg
    obtain ⟨its, rv, p, hz⟩ := I.list hq
    obtain ⟨f0, f1, f2, f3, f4, f5⟩ := hf it (by simp)
    have hl := rv.length
    exact wpAny_pyNext_list_end (I.ok.hd hc) st p.isList (by simp; omega) fun h' eb => ⟨rfl, I.turned (t' := s.toks) (fun b o hb e => eb b o hb e) f0 f1 f3 f4 f5⟩
  self := fun _ _ _ _ _ st h => wpAny_pyIter_listiter st h
theorem turn_tuple {P : Program} {w : World} {K : PySem.W.Frag} {tg : Expr} (a it : Addr) : Turn P w K tg (Itt K a) [it] it (fun i h => h.IsTupleIter it a i) where
  mem := by simp
  obj := fun i h st b hb => by
    have e : b = it := by simpa using hb
    subst e
    obtain ⟨o, e, c, d⟩ := st
    exact ⟨o, e, fun v z => by rw [d] at z; cases z⟩
  keep := fun i h h' st k => st.at fun o e => k it (by simp) o e
  item := by
    intro X hP hw hK hc i pins s σ H E I hf st hg
    subst hP hw hK
    obtain ⟨xs, x, hq, hx⟩ := hg
    obtain ⟨its, rv, p, hz⟩ := I.tuple hq
    obtain ⟨u, hu, ru⟩ := rv.get hx
    obtain ⟨f0, f1, f2, f3, f4, f5⟩ := hf it (by simp)
    refine wpAny_pyNext_tuple_item st (show s.heap.IsTuple a its.toArray from p) (x := u) (by simpa using hu) fun h' st' sb => ?_
    have I1 : Inv X pins σ H { s with heap := h' } := I.turned (t' := s.toks) (fun b o hb e => (sb.2 b hb).trans e) f0 f1 f3 f4 f5
    obtain ⟨o, e, c, d⟩ := id st'
    exact ⟨u, rfl, go_of (s := { s with heap := h' }) e c d (by decide) ⟨x, H, I1, ru, ⟨rfl, fun ys hy => by rw [I.tuple_inj hy hq]; exact hx⟩, st', fun b hb => (hf b hb).1⟩⟩
  done := by
    intro X hP hw hK hc i pins s σ H E I hf st hg
    subst hP hw hK
    obtain ⟨xs, hq, hx⟩ := hg
    obtain ⟨its, rv, p, hz⟩ := I.tuple hq
    obtain ⟨f0, f1, f2, f3, f4, f5⟩ := hf it (by simp)
    have hl := rv.length
    exact wpAny_pyNext_tuple_end (I.ok.hd hc) st (show s.heap.IsTuple a its.toArray from p) (by simp; omega) fun h' eb => ⟨rfl, I.turned (t' := s.toks) (fun b o hb e => eb b o hb e) f0 f1 f3 f4 f5⟩
  self := fun _ _ _ _ _ st h => wpAny_pyIter_tupleiter st h
theorem turn_range {P : Program} {w : World} {K : PySem.W.Frag} {tg : Expr} (it : Addr) (lo : Int) (n : Nat) : Turn P w K tg (Itr lo n) [it] it (fun i h => IsRangeIter h it (lo + (i : Nat) * 1) ((n : Int) - (i : Nat)) 1) where
  mem := by simp
  obj := fun i h st b hb => by
    have e : b = it := by simpa using hb
    subst e
    exact ⟨_, st, fun v z => by
      have z' : Data.fields _ = Data.cell v := z
      cases z'⟩
  keep := fun i h h' st k => k it (by simp) _ st
  item := by
    intro X hP hw hK hc i pins s σ H E I hf st hg
    subst hP hw hK
    obtain ⟨f0, f1, f2, f3, f4, f5⟩ := hf it (by simp)
    have W := Walks.range (prog := X.prog) (w := X.w) (I.ok.hd hc) it lo 1 n
    refine wpAny_with_toks (Nat.le_refl s.toks) (W.item i s _ _ hg st fun v h' tk hv st' kk htk => ?_)
    obtain ⟨t, rfl⟩ := hv
    have I1 : Inv X pins σ H { s with heap := h', toks := tk } := I.turned (fun b o hb e => kk b o (by simpa using hb) e) f0 f1 f3 f4 f5
    refine ⟨_, rfl, go_of (s := { s with heap := h', toks := tk }) (n := "range_iterator") st' rfl rfl (by decide) ⟨.int (lo + i), H, I1, ⟨t, ?_⟩, ⟨rfl, rfl⟩, st', fun b hb => (hf b hb).1⟩⟩
    rw [Int.mul_one]
  done := by
    intro X hP hw hK hc i pins s σ H E I hf st hg
    subst hP hw hK
    obtain ⟨f0, f1, f2, f3, f4, f5⟩ := hf it (by simp)
    exact wpAny_pyNext_range_end (I.ok.hd hc) st (by have : n ≤ i := hg; omega) fun h' eb => ⟨rfl, I.turned (t' := s.toks) (fun b o hb e => eb b o hb e) f0 f1 f3 f4 f5⟩
  self := fun _ _ _ _ _ st h => wpAny_pyIter_rangeiter st h
end L2

namespace L2
open PySem PySem.Spec PyProof.Rows
section
variable {X : Cx} {tg : Expr}
def iList (K : PySem.W.Frag) (tl : TE) : TI := fun σ H R => tl σ H fun x H1 => ∃ a, x = .ref a ∧ (∃ xs, SqL K H1 a xs) ∧ R (Itl K a) H1
def iTup (K : PySem.W.Frag) (tl : TE) : TI := fun σ H R => tl σ H fun x H1 => ∃ a, x = .ref a ∧ (∃ xs, SqT K H1 a xs) ∧ R (Itt K a) H1
theorem pi_list {l : Expr} {tl : TE} (hl : PE X l tl) : PI X tg l (iList X.K tl) := by
  intro pins s σ H R I h
  refine thn (hl pins s σ H _ I h) fun v s1 ⟨x, H1, I1, r1, q1⟩ => ?_
  obtain ⟨a, e, ⟨xs, hq⟩, q⟩ := q1
  subst e
  cases r1
  obtain ⟨its, rv, p, hz⟩ := I1.list hq
  refine wpAny_pyIter_list p.isList ?_
  refine ⟨s1.heap.objs.size, [s1.heap.objs.size], _, _, H1, rfl, I1.kept (t' := s1.toks) fun b o e => Heap.get?_push_of_some _ e, turn_list a _, ⟨_, Heap.get?_push_size _ rfl, rfl, rfl⟩, fun b hb => ?_, q⟩
  have e : b = s1.heap.objs.size := by simpa using hb
  subst e
  exact I1.fpOk (Nat.le_refl _) (I1.hok.fresh (Nat.le_refl _))
theorem pi_tup {l : Expr} {tl : TE} (hl : PE X l tl) : PI X tg l (iTup X.K tl) := by
  intro pins s σ H R I h
  refine thn (hl pins s σ H _ I h) fun v s1 ⟨x, H1, I1, r1, q1⟩ => ?_
  obtain ⟨a, e, ⟨xs, hq⟩, q⟩ := q1
  subst e
  cases r1
  obtain ⟨its, rv, p, hz⟩ := I1.tuple hq
  refine wpAny_pyIter_tuple (show s1.heap.IsTuple a its.toArray from p) ?_
  refine ⟨s1.heap.objs.size, [s1.heap.objs.size], _, _, H1, rfl, I1.kept (t' := s1.toks) fun b o e => Heap.get?_push_of_some _ e, turn_tuple a _, ⟨_, Heap.get?_push_size _ rfl, rfl, rfl⟩, fun b hb => ?_, q⟩
  have e : b = s1.heap.objs.size := by simpa using hb
  subst e
  exact I1.fpOk (Nat.le_refl _) (I1.hok.fresh (Nat.le_refl _))
/-- a range object just made, walked -/
theorem range_it {pins : List (Addr × Obj)} {σ : St} {H : Hp} {s : Shared} {R : It → Hp → Prop} {E : Value → Shared → Prop} {lo hi : Int} {t u v : Tok} {tk : Nat} (htk : s.toks ≤ tk) (I : Inv X pins σ H s) (h1 : -(2 ^ 62) ≤ lo) (h2 : lo < 2 ^ 62) (h3 : -(2 ^ 62) ≤ hi) (h4 : hi < 2 ^ 62)
    (q : R (Itr lo (hi - lo).toNat) H) : wpAny (model X.prog X.w) X.A (pyIter (.ref s.heap.objs.size)) (PIE X pins σ tg R) E { s with heap := s.heap.push { cls := .type "range", data := .fields #[.int lo t, .int hi u, .int 1 v] }, toks := tk } := by
  refine wpAny_pyIter_range (IsRange.new ..) (small_one h1 h2 h3 h4) ?_
  have I1 : Inv X pins σ H { s with heap := s.heap.push { cls := .type "range", data := .fields #[.int lo t, .int hi u, .int 1 v] }, toks := tk } := I.kept fun b o e => Heap.get?_push_of_some _ e
  refine ⟨(s.heap.push { cls := .type "range", data := .fields #[.int lo t, .int hi u, .int 1 v] }).objs.size, [(s.heap.push { cls := .type "range", data := .fields #[.int lo t, .int hi u, .int 1 v] }).objs.size], _, _, H, rfl,
    I1.kept (t' := tk) fun b o e => Heap.get?_push_of_some _ e, turn_range _ lo (hi - lo).toNat, ?_, fun b hb => ?_, q⟩
  · have e1 : lo + ((0 : Nat) : Int) * 1 = lo := by simp
    have e2 : (((hi - lo).toNat : Nat) : Int) - ((0 : Nat) : Int) = Builtin.Range.rangeSize lo hi 1 := by rw [rangeSize_one]; split <;> omega
    show IsRangeIter _ _ (lo + ((0 : Nat) : Int) * 1) ((((hi - lo).toNat : Nat) : Int) - ((0 : Nat) : Int)) 1
    rw [e1, e2]
    exact Heap.get?_push_size _ rfl
  · have e : b = (s.heap.push { cls := .type "range", data := .fields #[.int lo t, .int hi u, .int 1 v] }).objs.size := by simpa using hb
    subst e
    exact I1.fpOk (Nat.le_refl _) (I1.hok.fresh (Nat.le_refl _))
def iRng1 (ta : TA) : TI := fun σ H R => ta σ H fun vs H1 => ∃ j : Int, vs = [.int j] ∧ -(2 ^ 62) ≤ j ∧ j < 2 ^ 62 ∧ R (Itr 0 j.toNat) H1
def iRng2 (ta : TA) : TI := fun σ H R => ta σ H fun vs H1 => ∃ i j : Int, vs = [.int i, .int j] ∧ (-(2 ^ 62) ≤ i ∧ i < 2 ^ 62 ∧ -(2 ^ 62) ≤ j ∧ j < 2 ^ 62) ∧ R (Itr i (j - i).toNat) H1
theorem pi_range1 {a : Expr} {ta : TA} {p pos : Pos} (hg : Gl X "range") (hm : X.mg "range" = none) (ha : PA X [a] ta) (hs : starEach [a] X.env = [(false, eval a X.env)] := by rfl) : PI X tg (.Call (.Name "range" p) [a] [] pos) (iRng1 ta) := by
  intro pins s σ H R I h
  refine Call_ (ld_blt I hg hm boot_range (PyProof.Rows.callWith_type1 (thn (ha pos pins s σ H _ I h) fun us s1 ⟨vs, H1, I1, r1, q1⟩ => ?_) hs rfl))
  obtain ⟨j, e, q1, q2, q⟩ := q1
  subst e
  cases r1 with
  | cons r rr =>
    cases rr
    obtain ⟨t, rfl⟩ := r
    exact call_range_1 (range_it (by first | exact Nat.le_refl _ | exact Nat.le_succ _ | assumption | omega) I1 (by omega) (by omega) q1 q2 (by simpa using q))
theorem pi_range2 {a b : Expr} {ta : TA} {p pos : Pos} (hg : Gl X "range") (hm : X.mg "range" = none) (ha : PA X [a, b] ta) (hs : starEach [a, b] X.env = [(false, eval a X.env), (false, eval b X.env)] := by rfl) (hs2 : starEach [b] X.env = [(false, eval b X.env)] := by rfl) :
    PI X tg (.Call (.Name "range" p) [a, b] [] pos) (iRng2 ta) := by
  intro pins s σ H R I h
  refine Call_ (ld_blt I hg hm boot_range (PyProof.Rows.callWith_type1 (thn (ha pos pins s σ H _ I h) fun us s1 ⟨vs, H1, I1, r1, q1⟩ => ?_) (by rw [hs, hs2]) (by rw [hs2]; rfl)))
  obtain ⟨i, j, e, ⟨q1, q2, q3, q4⟩, q⟩ := q1
  subst e
  cases r1 with
  | cons r rr =>
    cases rr with
    | cons r' rr =>
      cases rr
      obtain ⟨t, rfl⟩ := r
      obtain ⟨t', rfl⟩ := r'
      exact call_range_2 (range_it (by first | exact Nat.le_refl _ | exact Nat.le_succ _ | assumption | omega) I1 q1 q2 q3 q4 q)

/-! ### for -/
/-- W: the invariant by the turn and a measure; N: what the body is to reach -/
def tFor (wi : TI) (g : TG) (tb : TS) : TS := fun D σ H => wi σ H fun J H1 => ∃ W : Nat → Nat → St → Hp → Prop, (∃ m, W 0 m σ H1) ∧ ∀ i m σ H, W i m σ H →
  (J.stop i H ∧ D.nx σ H) ∨ (J.go i H ∧ ∃ N : St → Hp → Prop, (∀ σ' H', N σ' H' → ∃ m', m' < m ∧ W (i + 1) m' σ' H') ∧ ∀ x H', J.yld i H x H' → g x σ H' fun σ2 H2 => tb { D with nx := N, ct := N, bk := D.nx } σ2 H2)
/-- the records at fp as they stand -/
def pinsAt (fp : List Addr) (h : Heap) : List (Addr × Obj) := fp.filterMap fun b => (h.get? b).map fun o => (b, o)
theorem mem_pinsAt {fp : List Addr} {h : Heap} {b : Addr} {o : Obj} (hb : b ∈ fp) (e : h.get? b = some o) : (b, o) ∈ pinsAt fp h := List.mem_filterMap.mpr ⟨b, hb, by rw [e]; rfl⟩
theorem of_pinsAt {fp : List Addr} {h : Heap} {p : Addr × Obj} (hp : p ∈ pinsAt fp h) : p.1 ∈ fp ∧ h.get? p.1 = some p.2 := by
  obtain ⟨b, hb, e⟩ := List.mem_filterMap.mp hp
  cases q : h.get? b with
  | none => rw [q] at e; cases e
  | some o =>
    rw [q] at e
    have e' : (b, o) = p := Option.some.inj e
    subst e'
    exact ⟨hb, q⟩
theorem Inv.pinned {pins : List (Addr × Obj)} {σ : St} {H : Hp} {s : Shared} {fp : List Addr} (I : Inv X pins σ H s) (hf : ∀ b ∈ fp, FpOk X pins H b) (ho : ∀ b ∈ fp, ∃ o, s.heap.get? b = some o ∧ ∀ v, o.data ≠ .cell v) : Inv X (pins ++ pinsAt fp s.heap) σ H s :=
  I.pins_of fun p hp => (List.mem_append.mp hp).elim (fun z => I.pin p (List.mem_append_right _ z)) fun z => by
    obtain ⟨hb, e⟩ := of_pinsAt z
    obtain ⟨f0, f1, f2, _⟩ := hf p.1 hb
    obtain ⟨o, e', d⟩ := ho p.1 hb
    rw [e] at e'; cases e'
    exact ⟨e, f0, f1, f2, d⟩
theorem Inv.unpinned {pins pl : List (Addr × Obj)} {σ : St} {H : Hp} {s : Shared} (I : Inv X (pins ++ pl) σ H s) : Inv X pins σ H s := I.pins_of fun p hp => I.pin p (List.mem_append_right _ (List.mem_append_left _ hp))
theorem ps_for {iter : Expr} {body : List Stmt} {wi : TI} {g : TG} {tb : TS} {pos : Pos} (hp : PassesOwn (model X.prog X.w) X.A X.env X.xe) (hc : X.calm = true) (hi : PI X tg iter wi) (hg : PG X tg g) (hb : PSs X body tb)
    (hs : ∀ x, foldedSetIterable iter X.env x = pure x := by intro _; rfl) : PS X (.For tg iter body [] pos) (tFor wi g tb) := by
  intro pins s σ H D I h
  refine wpAny_For (thn (hi pins s σ H _ I h) fun v s1 h1 => thn h1 fun itv s2 h2 => ?_) hs
  obtain ⟨it, fp, tn, J, H2, e, I2, T, st2, f2, W, ⟨m0, w0⟩, turn⟩ := h2
  subst e
  -- what stays true of the iterator's objects through the loop
  have stat : ∀ {H' : Hp}, (∀ b ∈ fp, H' b = none) → ∀ b ∈ fp, FpOk X pins H' b := fun hn b hb => ⟨hn b hb, (f2 b hb).2⟩
  refine codeAny_forLoop_any (fun n s' => ∃ i σ' H', Inv X pins σ' H' s' ∧ tn i s'.heap ∧ (∀ b ∈ fp, H' b = none) ∧ W i n σ' H') ?_ m0 ⟨0, σ, H2, I2, st2, fun b hb => (f2 b hb).1, w0⟩
  rintro n s3 ⟨i, σ3, H3, I3, st3, fr3, w3⟩
  rcases turn i n σ3 H3 w3 with ⟨stop, qn⟩ | ⟨go, N, hN, step⟩
  · refine wpAny_passesOwn hp (thn (T.done X rfl rfl rfl hc i pins s3 σ3 H3 X.xe I3 (stat fr3) st3 stop) fun r s4 ⟨hr, I4⟩ => ?_)
    subst hr
    exact wpAny_execs_nil ⟨σ3, H3, I4, qn⟩
  · refine wpAny_passesOwn hp (thn (T.item X rfl rfl rfl hc i pins s3 σ3 H3 X.xe I3 (stat fr3) st3 go) fun r s4 ⟨u, hr, h4⟩ => ?_)
    subst hr
    refine wpAny_passesOwn hp (thn h4 fun _ s5 ⟨x, H5, I5, r5, y5, st5, fr5⟩ => ?_)
    have I5' := I5.pinned (stat fr5) (T.obj _ _ st5)
    refine wpAny_passesOwn hp (thn (hg _ s5 σ3 H5 x u _ I5' r5 (step x H5 y5)) fun _ s6 ⟨σ6, H6, I6, q6⟩ => ?_)
    refine wpAny_passesOwn hp (thn (hb _ s6 σ6 H6 _ I6 q6) fun f s7 q7 => ?_)
    have again : ∀ {σ7 : St} {H7 : Hp}, Inv X (pins ++ pinsAt fp s5.heap) σ7 H7 s7 → N σ7 H7 → ∃ m, m < n ∧ ∃ i σ' H', Inv X pins σ' H' s7 ∧ tn i s7.heap ∧ (∀ b ∈ fp, H' b = none) ∧ W i m σ' H' := fun {σ7 H7} I7 n7 => by
      obtain ⟨m', hm, w7⟩ := hN σ7 H7 n7
      refine ⟨m', hm, i + 1, σ7, H7, I7.unpinned, T.keep _ _ _ st5 fun b hb o e => (I7.pin (b, o) (List.mem_append_right _ (List.mem_append_right _ (mem_pinsAt hb e)))).1, fun b hb => ?_, w7⟩
      obtain ⟨o, e, d⟩ := T.obj _ _ st5 b hb
      exact (I7.pin (b, o) (List.mem_append_right _ (List.mem_append_right _ (mem_pinsAt hb e)))).2.1
    cases f with
    | next => obtain ⟨σ7, H7, I7, n7⟩ := q7; exact again I7 n7
    | cont => obtain ⟨σ7, H7, I7, n7⟩ := q7; exact again I7 n7
    | brk => obtain ⟨σ7, H7, I7, q7⟩ := q7; exact ⟨σ7, H7, I7.unpinned, q7⟩
    | ret v => obtain ⟨x7, σ7, H7, I7, r7, q7⟩ := q7; exact ⟨x7, σ7, H7, I7.unpinned, r7, q7⟩
end

/-! ### the forms one uses -/
/-- over a list that the body leaves as it is -/
theorem for_list {K : PySem.W.Frag} {a : Addr} {xs : List V} {g : TG} {tb : TS} {D : Ends} {σ : St} {H : Hp} (Pv : Nat → St → Hp → Prop) (h0 : Pv 0 σ H) (hl : ∀ i σ H, i ≤ xs.length → Pv i σ H → SqL K H a xs)
    (hs : ∀ i x σ H, xs[i]? = some x → Pv i σ H → g x σ H fun σ2 H2 => tb { D with nx := Pv (i + 1), ct := Pv (i + 1), bk := D.nx } σ2 H2) (hd : ∀ σ H, Pv xs.length σ H → D.nx σ H) :
    ∃ W : Nat → Nat → St → Hp → Prop, (∃ m, W 0 m σ H) ∧ ∀ i m σ H, W i m σ H →
      ((Itl K a).stop i H ∧ D.nx σ H) ∨ ((Itl K a).go i H ∧ ∃ N : St → Hp → Prop, (∀ σ' H', N σ' H' → ∃ m', m' < m ∧ W (i + 1) m' σ' H') ∧ ∀ x H', (Itl K a).yld i H x H' → g x σ H' fun σ2 H2 => tb { D with nx := N, ct := N, bk := D.nx } σ2 H2) := by
  refine ⟨fun i m σ H => m = xs.length - i ∧ i ≤ xs.length ∧ Pv i σ H, ⟨xs.length, by simp, Nat.zero_le _, h0⟩, ?_⟩
  rintro i m σ H ⟨rfl, hi, p⟩
  have q := hl i σ H hi p
  by_cases hlt : i < xs.length
  · refine .inr ⟨⟨xs, xs[i], q, by simp [hlt]⟩, Pv (i + 1), fun σ' H' p' => ⟨xs.length - (i + 1), by omega, rfl, hlt, p'⟩, fun x H' y => ?_⟩
    obtain ⟨e, y⟩ := y
    subst e
    exact hs i x σ _ (y xs q) p
  · have e : i = xs.length := by omega
    subst e
    exact .inl ⟨⟨xs, q, Nat.le_refl _⟩, hd σ H p⟩
theorem for_tup {K : PySem.W.Frag} {a : Addr} {xs : List V} {g : TG} {tb : TS} {D : Ends} {σ : St} {H : Hp} (Pv : Nat → St → Hp → Prop) (h0 : Pv 0 σ H) (hl : ∀ i σ H, i ≤ xs.length → Pv i σ H → SqT K H a xs)
    (hs : ∀ i x σ H, xs[i]? = some x → Pv i σ H → g x σ H fun σ2 H2 => tb { D with nx := Pv (i + 1), ct := Pv (i + 1), bk := D.nx } σ2 H2) (hd : ∀ σ H, Pv xs.length σ H → D.nx σ H) :
    ∃ W : Nat → Nat → St → Hp → Prop, (∃ m, W 0 m σ H) ∧ ∀ i m σ H, W i m σ H →
      ((Itt K a).stop i H ∧ D.nx σ H) ∨ ((Itt K a).go i H ∧ ∃ N : St → Hp → Prop, (∀ σ' H', N σ' H' → ∃ m', m' < m ∧ W (i + 1) m' σ' H') ∧ ∀ x H', (Itt K a).yld i H x H' → g x σ H' fun σ2 H2 => tb { D with nx := N, ct := N, bk := D.nx } σ2 H2) := by
  refine ⟨fun i m σ H => m = xs.length - i ∧ i ≤ xs.length ∧ Pv i σ H, ⟨xs.length, by simp, Nat.zero_le _, h0⟩, ?_⟩
  rintro i m σ H ⟨rfl, hi, p⟩
  have q := hl i σ H hi p
  by_cases hlt : i < xs.length
  · refine .inr ⟨⟨xs, xs[i], q, by simp [hlt]⟩, Pv (i + 1), fun σ' H' p' => ⟨xs.length - (i + 1), by omega, rfl, hlt, p'⟩, fun x H' y => ?_⟩
    obtain ⟨e, y⟩ := y
    subst e
    exact hs i x σ _ (y xs q) p
  · have e : i = xs.length := by omega
    subst e
    exact .inl ⟨⟨xs, q, Nat.le_refl _⟩, hd σ H p⟩
theorem for_range {lo : Int} {n : Nat} {g : TG} {tb : TS} {D : Ends} {σ : St} {H : Hp} (Pv : Nat → St → Hp → Prop) (h0 : Pv 0 σ H)
    (hs : ∀ i σ H, i < n → Pv i σ H → g (.int (lo + i)) σ H fun σ2 H2 => tb { D with nx := Pv (i + 1), ct := Pv (i + 1), bk := D.nx } σ2 H2) (hd : ∀ σ H, Pv n σ H → D.nx σ H) :
    ∃ W : Nat → Nat → St → Hp → Prop, (∃ m, W 0 m σ H) ∧ ∀ i m σ H, W i m σ H →
      ((Itr lo n).stop i H ∧ D.nx σ H) ∨ ((Itr lo n).go i H ∧ ∃ N : St → Hp → Prop, (∀ σ' H', N σ' H' → ∃ m', m' < m ∧ W (i + 1) m' σ' H') ∧ ∀ x H', (Itr lo n).yld i H x H' → g x σ H' fun σ2 H2 => tb { D with nx := N, ct := N, bk := D.nx } σ2 H2) := by
  refine ⟨fun i m σ H => m = n - i ∧ i ≤ n ∧ Pv i σ H, ⟨n, by simp, Nat.zero_le _, h0⟩, ?_⟩
  rintro i m σ H ⟨rfl, hi, p⟩
  by_cases hlt : i < n
  · refine .inr ⟨hlt, Pv (i + 1), fun σ' H' p' => ⟨n - (i + 1), by omega, rfl, hlt, p'⟩, fun x H' y => ?_⟩
    obtain ⟨e, y⟩ := y
    subst e y
    exact hs i σ _ hlt p
  · have e : i = n := by omega
    subst e
    exact .inl ⟨Nat.le_refl _, hd σ H p⟩
/-- while, by a word and a measure of the state -/
theorem while_by {c : TT} {tb : TS} {D : Ends} {σ : St} {H : Hp} (Pv : St → Hp → Prop) (μ : St → Hp → Nat) (h0 : Pv σ H)
    (hs : ∀ σ H, Pv σ H → c σ H fun b H1 => if b = true then tb { D with nx := fun σ' H' => Pv σ' H' ∧ μ σ' H' < μ σ H, ct := fun σ' H' => Pv σ' H' ∧ μ σ' H' < μ σ H, bk := D.nx } σ H1 else D.nx σ H1)
    (mono : ∀ σ H Q Q', (∀ b H1, Q b H1 → Q' b H1) → c σ H Q → c σ H Q') : tWhile c tb D σ H := by
  refine ⟨fun m σ H => m = μ σ H ∧ Pv σ H, ⟨_, rfl, h0⟩, ?_⟩
  rintro m σ H ⟨rfl, p⟩
  refine mono σ H _ _ (fun b H1 q => ?_) (hs σ H p)
  cases b with
  | true => exact ⟨_, fun σ' H' ⟨p', l⟩ => ⟨_, l, rfl, p'⟩, q⟩
  | false => exact q
end L2

namespace L2
open PySem PySem.Spec PyProof.Rows

abbrev R2 := V → V → Hp → VK → Prop
/-- a two-place operation on values: f is binaryOp op, inplaceOp op or compareOp op -/
def OpR (X : Cx) (f : Value → Value → Sem Value) (r : R2) : Prop :=
  ∀ (pins : List (Addr × Obj)) (s : Shared) (σ : St) (H : Hp) (x y : V) (v u : Value) (Q : VK), Inv X pins σ H s → RelV x v → RelV y u → r x y H Q →
    wpAny (model X.prog X.w) X.A (f v u) (EP X pins σ Q) X.xe s
/-- a one-place operation -/
def UnR (X : Cx) (f : Value → Sem Value) (r : V → Hp → VK → Prop) : Prop :=
  ∀ (pins : List (Addr × Obj)) (s : Shared) (σ : St) (H : Hp) (x : V) (v : Value) (Q : VK), Inv X pins σ H s → RelV x v → r x H Q →
    wpAny (model X.prog X.w) X.A (f v) (EP X pins σ Q) X.xe s
/-- a call of a value that is known (a builtin, a type) with values -/
def CallR (X : Cx) (f : Value) (r : List V → Hp → VK → Prop) : Prop :=
  ∀ (pins : List (Addr × Obj)) (s : Shared) (σ : St) (H : Hp) (xs : List V) (us : List Value) (Q : VK), Inv X pins σ H s → Vals xs us → r xs H Q →
    wpAny (model X.prog X.w) X.A (call f us) (EP X pins σ Q) X.xe s
/-- a value's truth -/
def TruR (X : Cx) (r : V → Hp → (Bool → Hp → Prop) → Prop) : Prop :=
  ∀ (pins : List (Addr × Obj)) (s : Shared) (σ : St) (H : Hp) (x : V) (v : Value) (Q : Bool → Hp → Prop), Inv X pins σ H s → RelV x v → r x H Q →
    wpAny (model X.prog X.w) X.A (truthy v) (TP X pins σ Q) X.xe s

def tOp (r : R2) (ta tb : TE) : TE := fun σ H Q => ta σ H fun x H1 => tb σ H1 fun y H2 => r x y H2 Q
def tUn (r : V → Hp → VK → Prop) (ta : TE) : TE := fun σ H Q => ta σ H fun x H1 => r x H1 Q
/-- ints in, under C, and a value out -/
def rI (C : Int → Int → Prop) (g : Int → Int → V) : R2 := fun x y H Q => ∃ i j, x = .int i ∧ y = .int j ∧ C i j ∧ Q (g i j) H
def rI0 (g : Int → Int → V) : R2 := fun x y H Q => ∃ i j, x = .int i ∧ y = .int j ∧ Q (g i j) H
def rU (g : Int → V) : V → Hp → VK → Prop := fun x H Q => ∃ i, x = .int i ∧ Q (g i) H

section
variable {X : Cx} {a b c : Expr} {ta tb tc : TE} {pos : Pos}

theorem binT (ha : PE X a ta) (hb : PE X b tb) {pins : List (Addr × Obj)} {s : Shared} {σ : St} {H : Hp} {R : V → V → Hp → Prop} (I : Inv X pins σ H s)
    (h : ta σ H fun x H1 => tb σ H1 fun y H2 => R x y H2) {Q : Value → Shared → Prop} {f : Value → Value → Sem Value}
    (hf : ∀ v u s2 x y H2, Inv X pins σ H2 s2 → RelV x v → RelV y u → R x y H2 → wpAny (model X.prog X.w) X.A (f v u) Q X.xe s2) :
    wpAny (model X.prog X.w) X.A (eval a X.env) (fun v s₁ => wpAny (model X.prog X.w) X.A (eval b X.env) (fun u s₂ => wpAny (model X.prog X.w) X.A (f v u) Q X.xe s₂) X.xe s₁) X.xe s := by
  refine thn (ha pins s σ H _ I h) fun v s1 ⟨x, H1, I1, r1, q1⟩ => ?_
  refine thn (hb pins s1 σ H1 _ I1 q1) fun u s2 ⟨y, H2, I2, r2, q2⟩ => ?_
  exact hf v u s2 x y H2 I2 r1 r2 q2

theorem pe_op {op : Operator} {r : R2} (ho : OpR X (binaryOp op) r) (ha : PE X a ta) (hb : PE X b tb) : PE X (.BinOp a op b pos) (tOp r ta tb) := by
  intro pins s σ H Q I h
  exact wpAny_BinOp (binT ha hb I h fun v u s2 x y H2 I2 rx ry q => ho pins s2 σ H2 x y v u Q I2 rx ry q)
theorem pe_un {op : UnaryOp} {r : V → Hp → VK → Prop} (ho : UnR X (unaryOp op) r) (ha : PE X a ta) : PE X (.UnaryOp op a pos) (tUn r ta) := by
  intro pins s σ H Q I h
  exact UnaryOp_ (thn (ha pins s σ H _ I h) fun v s1 ⟨x, H1, I1, r1, q1⟩ => ho pins s1 σ H1 x v Q I1 r1 q1)
/-- a op= e at a name: the name's slot i -/
theorem augR {op : Operator} {r : R2} (ho : OpR X (inplaceOp op) r) {pins : List (Addr × Obj)} {s : Shared} {σ : St} {H : Hp} {x y : V} {v u : Value} {Q : VK} (I : Inv X pins σ H s)
    (rx : RelV x v) (ry : RelV y u) (q : r x y H Q) : wpAny (model X.prog X.w) X.A (inplaceOp op v u) (EP X pins σ Q) X.xe s := ho pins s σ H x y v u Q I rx ry q

/-! ### ints -/
theorem opI {f : Value → Value → Sem Value} {C : Int → Int → Prop} {g : Int → Int → Int}
    (rule : ∀ (i j : Int) (t u : Tok) (s : Shared) (Q : Value → Shared → Prop) (E : Value → Shared → Prop), C i j → Q (.int (g i j) s.toks) { s with toks := s.toks + 1 } → wpAny (model X.prog X.w) X.A (f (.int i t) (.int j u)) Q E s) :
    OpR X f (rI C fun i j => .int (g i j)) := by
  intro pins s σ H x y v u Q I rx ry h
  obtain ⟨i, j, rfl, rfl, hc, q⟩ := h
  obtain ⟨t, rfl⟩ := rx
  obtain ⟨t', rfl⟩ := ry
  exact rule i j t t' s _ _ hc ⟨.int (g i j), H, I.tok _, ⟨_, rfl⟩, q⟩
theorem opI0 {f : Value → Value → Sem Value} {g : Int → Int → Int}
    (rule : ∀ (i j : Int) (t u : Tok) (s : Shared) (Q : Value → Shared → Prop) (E : Value → Shared → Prop), Q (.int (g i j) s.toks) { s with toks := s.toks + 1 } → wpAny (model X.prog X.w) X.A (f (.int i t) (.int j u)) Q E s) :
    OpR X f (rI0 fun i j => .int (g i j)) := by
  intro pins s σ H x y v u Q I rx ry h
  obtain ⟨i, j, rfl, rfl, q⟩ := h
  obtain ⟨t, rfl⟩ := rx
  obtain ⟨t', rfl⟩ := ry
  exact rule i j t t' s _ _ ⟨.int (g i j), H, I.tok _, ⟨_, rfl⟩, q⟩
theorem opB0 {f : Value → Value → Sem Value} {g : Int → Int → Bool}
    (rule : ∀ (i j : Int) (t u : Tok) (s : Shared) (Q : Value → Shared → Prop) (E : Value → Shared → Prop), Q (.bool (g i j)) s → wpAny (model X.prog X.w) X.A (f (.int i t) (.int j u)) Q E s) :
    OpR X f (rI0 fun i j => .bl (g i j)) := by
  intro pins s σ H x y v u Q I rx ry h
  obtain ⟨i, j, rfl, rfl, q⟩ := h
  obtain ⟨t, rfl⟩ := rx
  obtain ⟨t', rfl⟩ := ry
  exact rule i j t t' s _ _ ⟨.bl (g i j), H, I, rfl, q⟩

def CDiv (i j : Int) : Prop := 0 < j ∧ j < 1073741824
def CDivN (i j : Int) : Prop := j ≠ 0 ∧ j.natAbs < 1073741824
def CPow (i j : Int) : Prop := 0 ≤ j ∧ j ≤ 1000000 ∧ i.natAbs < 2 ^ 64
def CMul (i j : Int) : Prop := (-(2 ^ 64) < i ∧ i < 2 ^ 64) ∨ (-(2 ^ 64) < j ∧ j < 2 ^ 64)
theorem CMul.ok {i j : Int} (h : CMul i j) : IntMulOk i j := by
  rcases h with ⟨h1, h2⟩ | ⟨h1, h2⟩
  · exact .of_left (intBits_le_64 h1 h2)
  · exact .of_right (intBits_le_64 h1 h2)
theorem two_pow_nn (k : Nat) : (0 : Int) ≤ 2 ^ k := by
  rw [two_pow_cast]
  exact Int.natCast_nonneg _

theorem op_add : OpR X (binaryOp .Add) (rI0 fun i j => .int (i + j)) := opI0 fun _ _ _ _ _ _ _ q => add_int q
theorem op_sub : OpR X (binaryOp .Sub) (rI0 fun i j => .int (i - j)) := opI0 fun _ _ _ _ _ _ _ q => sub_int q
theorem op_mul : OpR X (binaryOp .Mult) (rI CMul fun i j => .int (i * j)) := opI fun _ _ _ _ _ _ _ hc q => mul_int q hc.ok
/-- // by a positive divisor -/
theorem op_fdiv : OpR X (binaryOp .FloorDiv) (rI CDiv fun i j => .int (i / j)) := opI fun i j _ _ _ _ _ hc q => by
  have h1 : (0 : Int) < j := hc.1
  have h2 : j < 1073741824 := hc.2
  exact floordiv_int (by omega) (by rw [Int.fdiv_eq_ediv_of_nonneg i (by omega)]; exact q) (.inl (PyProof.noPylong_small (by omega)))
theorem op_fdivN : OpR X (binaryOp .FloorDiv) (rI CDivN fun i j => .int (i.fdiv j)) := opI fun _ _ _ _ _ _ _ hc q => floordiv_int hc.1 q (.inl (PyProof.noPylong_small hc.2))
/-- % by a positive divisor of any size -/
theorem op_mod : OpR X (binaryOp .Mod) (rI (fun _ j => 0 < j) fun i j => .int (i % j)) := opI fun i j _ _ _ _ _ hc q => by
  have h1 : (0 : Int) < j := hc
  exact mod_int' (by omega) (by rw [Int.fmod_eq_emod_of_nonneg i (by omega)]; exact q)
theorem op_modN : OpR X (binaryOp .Mod) (rI (fun _ j => j ≠ 0) fun i j => .int (i.fmod j)) := opI fun _ _ _ _ _ _ _ hc q => mod_int' hc q
theorem op_pow : OpR X (binaryOp .Pow) (rI CPow fun i j => .int (i ^ j.toNat)) := opI fun _ _ _ _ _ _ _ hc q => pow_int_small hc.1 hc.2.1 hc.2.2 q
theorem op_shl : OpR X (binaryOp .LShift) (rI CPow fun i j => .int (i * 2 ^ j.toNat)) := opI fun _ _ _ _ _ _ _ hc q => lshift_int_small hc.1 hc.2.1 hc.2.2 q
theorem op_shr : OpR X (binaryOp .RShift) (rI (fun _ j => 0 ≤ j) fun i j => .int (i / 2 ^ j.toNat)) := opI fun i j _ _ _ _ _ hc q =>
  rshift_int hc (by rw [Int.fdiv_eq_ediv_of_nonneg i (two_pow_nn _)]; exact q)
theorem op_and : OpR X (binaryOp .BitAnd) (rI0 fun i j => .int (Builtin.bitAnd i j)) := opI0 fun _ _ _ _ _ _ _ q => and_int q
theorem op_or : OpR X (binaryOp .BitOr) (rI0 fun i j => .int (Builtin.bitOr i j)) := opI0 fun _ _ _ _ _ _ _ q => or_int q
theorem op_xor : OpR X (binaryOp .BitXor) (rI0 fun i j => .int (Builtin.bitXor i j)) := opI0 fun _ _ _ _ _ _ _ q => xor_int q

theorem iop_add : OpR X (inplaceOp .Add) (rI0 fun i j => .int (i + j)) := opI0 fun _ _ _ _ _ _ _ q => iadd_int q
theorem iop_sub : OpR X (inplaceOp .Sub) (rI0 fun i j => .int (i - j)) := opI0 fun _ _ _ _ _ _ _ q => isub_int q
theorem iop_mul : OpR X (inplaceOp .Mult) (rI CMul fun i j => .int (i * j)) := opI fun _ _ _ _ _ _ _ hc q => imul_int q hc.ok
theorem iop_fdiv : OpR X (inplaceOp .FloorDiv) (rI CDiv fun i j => .int (i / j)) := opI fun i j _ _ _ _ _ hc q => by
  have h1 : (0 : Int) < j := hc.1
  have h2 : j < 1073741824 := hc.2
  exact ifloordiv_int (by omega) (by rw [Int.fdiv_eq_ediv_of_nonneg i (by omega)]; exact q) (.inl (PyProof.noPylong_small (by omega)))
theorem iop_mod : OpR X (inplaceOp .Mod) (rI (fun _ j => 0 < j) fun i j => .int (i % j)) := opI fun i j _ _ _ _ _ hc q => by
  have h1 : (0 : Int) < j := hc
  exact imod_int (by omega) (by rw [Int.fmod_eq_emod_of_nonneg i (by omega)]; exact q)
theorem iop_shl : OpR X (inplaceOp .LShift) (rI CPow fun i j => .int (i * 2 ^ j.toNat)) := opI fun _ _ _ _ _ _ _ hc q => ilshift_int_small hc.1 hc.2.1 hc.2.2 q
theorem iop_shr : OpR X (inplaceOp .RShift) (rI (fun _ j => 0 ≤ j) fun i j => .int (i / 2 ^ j.toNat)) := opI fun i j _ _ _ _ _ hc q =>
  irshift_int hc (by rw [Int.fdiv_eq_ediv_of_nonneg i (two_pow_nn _)]; exact q)
theorem iop_and : OpR X (inplaceOp .BitAnd) (rI0 fun i j => .int (Builtin.bitAnd i j)) := opI0 fun _ _ _ _ _ _ _ q => iand_int q
theorem iop_or : OpR X (inplaceOp .BitOr) (rI0 fun i j => .int (Builtin.bitOr i j)) := opI0 fun _ _ _ _ _ _ _ q => ior_int q
theorem iop_xor : OpR X (inplaceOp .BitXor) (rI0 fun i j => .int (Builtin.bitXor i j)) := opI0 fun _ _ _ _ _ _ _ q => ixor_int q

theorem unI {f : Value → Sem Value} {g : Int → Int}
    (rule : ∀ (i : Int) (t : Tok) (s : Shared) (Q : Value → Shared → Prop) (E : Value → Shared → Prop), Q (.int (g i) s.toks) { s with toks := s.toks + 1 } → wpAny (model X.prog X.w) X.A (f (.int i t)) Q E s) :
    UnR X f (rU fun i => .int (g i)) := by
  intro pins s σ H x v Q I rx h
  obtain ⟨i, rfl, q⟩ := h
  obtain ⟨t, rfl⟩ := rx
  exact rule i t s _ _ ⟨.int (g i), H, I.tok _, ⟨_, rfl⟩, q⟩
theorem un_neg : UnR X (unaryOp .USub) (rU fun i => .int (-i)) := unI fun _ _ _ _ _ q => neg_int q
theorem un_inv : UnR X (unaryOp .Invert) (rU fun i => .int (Builtin.bitNot i)) := unI fun _ _ _ _ _ q => invert_int q

/-! ### bools among ints: n += (a < b) -/
theorem op_add_ib : OpR X (binaryOp .Add) (fun x y H Q => ∃ i k, x = .int i ∧ y = .bl k ∧ Q (.int (i + b2i k)) H) := by
  intro pins s σ H x y v u Q I rx ry h
  obtain ⟨i, k, rfl, rfl, q⟩ := h
  obtain ⟨t, rfl⟩ := rx
  cases ry
  exact add_int_bool ⟨.int (i + b2i k), H, I.tok _, ⟨_, rfl⟩, q⟩
end

/-! ### comparisons -/
/-- the scalars that == tells apart as data does -/
def scal : V → V → Bool
  | .non, .non => true | .non, .int _ => true | .int _, .non => true | .non, .bl _ => true | .bl _, .non => true | .non, .str _ => true | .str _, .non => true
  | .int _, .int _ => true | .bl _, .bl _ => true | .str _, .str _ => true | .byt _, .byt _ => true
  | .int _, .str _ => true | .str _, .int _ => true | .bl _, .str _ => true | .str _, .bl _ => true
  | _, _ => false
def rEq : R2 := fun x y H Q => scal x y = true ∧ Q (.bl (decide (x = y))) H
def rNe : R2 := fun x y H Q => scal x y = true ∧ Q (.bl (!decide (x = y))) H

theorem dec_int {i j : Int} : decide (V.int i = V.int j) = (i == j) := by
  rw [Bool.eq_iff_iff]
  simp
theorem dec_bl {i j : Bool} : decide (V.bl i = V.bl j) = (i == j) := by
  rw [Bool.eq_iff_iff]
  simp
theorem dec_str {i j : Str} : decide (V.str i = V.str j) = (i == j) := by
  rw [Bool.eq_iff_iff]
  simp
theorem dec_byt {i j : Array UInt8} : decide (V.byt i = V.byt j) = (i.toList == j.toList) := by
  rw [Bool.eq_iff_iff]
  cases i
  cases j
  simp

section
variable {X : Cx} {a b c : Expr} {ta tb tc : TE} {pos : Pos}
theorem fin_bl {pins : List (Addr × Obj)} {σ : St} {H : Hp} {s : Shared} {Q : VK} {k k' : Bool} (I : Inv X pins σ H s) (q : Q (.bl k) H) (e : k = k') : EP X pins σ Q (.bool k') s := by
  subst e
  exact ⟨.bl k, H, I, rfl, q⟩
theorem op_eq : OpR X (compareOp .Eq) rEq := by
  intro pins s σ H x y v u Q I rx ry h
  obtain ⟨hs, q⟩ := h
  cases x with
  | non =>
    cases rx
    cases y with
    | non => cases ry; exact PySem.EqNone.eq_none_none (fin_bl I q (by simp))
    | bl j => cases ry; exact PySem.EqNone.eq_none_bool (fin_bl I q (by simp))
    | int j => obtain ⟨t', rfl⟩ := ry; exact PySem.EqNone.eq_none_int (fin_bl I q (by simp))
    | str j => obtain ⟨t', rfl⟩ := ry; exact PySem.EqNone.eq_none_str (fin_bl I q (by simp))
    | _ => exact absurd (show false = true from hs) Bool.false_ne_true
  | bl i =>
    cases rx
    cases y with
    | non => cases ry; exact PySem.EqNone.eq_bool_none (fin_bl I q (by simp))
    | bl j => cases ry; exact eq_bool (fin_bl I q dec_bl)
    | str j => obtain ⟨t', rfl⟩ := ry; exact PySem.EqMixed.eq_bool_str (fin_bl I q (by simp))
    | _ => exact absurd (show false = true from hs) Bool.false_ne_true
  | int i =>
    obtain ⟨t, rfl⟩ := rx
    cases y with
    | non => cases ry; exact PySem.EqNone.eq_int_none (fin_bl I q (by simp))
    | int j => obtain ⟨t', rfl⟩ := ry; exact eq_int (fin_bl I q dec_int)
    | str j => obtain ⟨t', rfl⟩ := ry; exact PySem.EqMixed.eq_int_str (fin_bl I q (by simp))
    | _ => exact absurd (show false = true from hs) Bool.false_ne_true
  | str i =>
    obtain ⟨t, rfl⟩ := rx
    cases y with
    | non => cases ry; exact PySem.EqNone.eq_str_none (fin_bl I q (by simp))
    | bl j => cases ry; exact PySem.EqMixed.eq_str_bool (fin_bl I q (by simp))
    | int j => obtain ⟨t', rfl⟩ := ry; exact PySem.EqMixed.eq_str_int (fin_bl I q (by simp))
    | str j => obtain ⟨t', rfl⟩ := ry; exact eq_str (fin_bl I q dec_str)
    | _ => exact absurd (show false = true from hs) Bool.false_ne_true
  | byt i =>
    obtain ⟨t, rfl⟩ := rx
    cases y with
    | byt j => obtain ⟨t', rfl⟩ := ry; exact PySem.W.eq_bytes (fin_bl I q dec_byt)
    | _ => exact absurd (show false = true from hs) Bool.false_ne_true
  | _ => cases y <;> exact absurd (show false = true from hs) Bool.false_ne_true
theorem op_ne : OpR X (compareOp .NotEq) rNe := by
  intro pins s σ H x y v u Q I rx ry h
  obtain ⟨hs, q⟩ := h
  cases x with
  | non =>
    cases rx
    cases y with
    | non => cases ry; exact PySem.EqNone.ne_none_none (fin_bl I q (by simp))
    | bl j => cases ry; exact PySem.EqNone.ne_none_bool (fin_bl I q (by simp))
    | int j => obtain ⟨t', rfl⟩ := ry; exact PySem.EqNone.ne_none_int (fin_bl I q (by simp))
    | str j => obtain ⟨t', rfl⟩ := ry; exact PySem.EqNone.ne_none_str (fin_bl I q (by simp))
    | _ => exact absurd (show false = true from hs) Bool.false_ne_true
  | bl i =>
    cases rx
    cases y with
    | non => cases ry; exact PySem.EqNone.ne_bool_none (fin_bl I q (by simp))
    | bl j => cases ry; exact ne_bool (fin_bl I q (congrArg not dec_bl))
    | str j => obtain ⟨t', rfl⟩ := ry; exact PySem.EqMixed.ne_bool_str (fin_bl I q (by simp))
    | _ => exact absurd (show false = true from hs) Bool.false_ne_true
  | int i =>
    obtain ⟨t, rfl⟩ := rx
    cases y with
    | non => cases ry; exact PySem.EqNone.ne_int_none (fin_bl I q (by simp))
    | int j => obtain ⟨t', rfl⟩ := ry; exact ne_int (fin_bl I q (congrArg not dec_int))
    | str j => obtain ⟨t', rfl⟩ := ry; exact PySem.EqMixed.ne_int_str (fin_bl I q (by simp))
    | _ => exact absurd (show false = true from hs) Bool.false_ne_true
  | str i =>
    obtain ⟨t, rfl⟩ := rx
    cases y with
    | non => cases ry; exact PySem.EqNone.ne_str_none (fin_bl I q (by simp))
    | bl j => cases ry; exact PySem.EqMixed.ne_str_bool (fin_bl I q (by simp))
    | int j => obtain ⟨t', rfl⟩ := ry; exact PySem.EqMixed.ne_str_int (fin_bl I q (by simp))
    | str j => obtain ⟨t', rfl⟩ := ry; exact ne_str (fin_bl I q (congrArg not dec_str))
    | _ => exact absurd (show false = true from hs) Bool.false_ne_true
  | byt i =>
    obtain ⟨t, rfl⟩ := rx
    cases y with
    | byt j => obtain ⟨t', rfl⟩ := ry; exact PySem.W.ne_bytes (fin_bl I q (congrArg not dec_byt))
    | _ => exact absurd (show false = true from hs) Bool.false_ne_true
  | _ => cases y <;> exact absurd (show false = true from hs) Bool.false_ne_true

theorem op_lt : OpR X (compareOp .Lt) (rI0 fun i j => .bl (decide (i < j))) := opB0 fun _ _ _ _ _ _ _ q => lt_int q
theorem op_le : OpR X (compareOp .LtE) (rI0 fun i j => .bl (decide (i ≤ j))) := opB0 fun _ _ _ _ _ _ _ q => le_int q
theorem op_gt : OpR X (compareOp .Gt) (rI0 fun i j => .bl (decide (j < i))) := opB0 fun _ _ _ _ _ _ _ q => gt_int q
theorem op_ge : OpR X (compareOp .GtE) (rI0 fun i j => .bl (decide (j ≤ i))) := opB0 fun _ _ _ _ _ _ _ q => ge_int q
theorem op_lt_str : OpR X (compareOp .Lt) (fun x y H Q => ∃ i j, x = .str i ∧ y = .str j ∧ Q (.bl (decide (i.cps.toList < j.cps.toList))) H) := by
  intro pins s σ H x y v u Q I rx ry h
  obtain ⟨i, j, rfl, rfl, q⟩ := h
  obtain ⟨t, rfl⟩ := rx
  obtain ⟨t', rfl⟩ := ry
  exact lt_str (fin_bl I q rfl)
/-- the one string within the other -/
theorem op_in_str : OpR X (compareOp .In) (fun x y H Q => ∃ i j, x = .str i ∧ y = .str j ∧ Q (.bl (!(Builtin.Str.occurrences j i 0 j.length 1).isEmpty)) H) := by
  intro pins s σ H x y v u Q I rx ry h
  obtain ⟨i, j, rfl, rfl, q⟩ := h
  obtain ⟨t, rfl⟩ := rx
  obtain ⟨t', rfl⟩ := ry
  exact in_str (fin_bl I q rfl)

/-- is None, is not None: the right side a value none -/
theorem op_isN : OpR X (compareOp .Is) (fun x y H Q => y = .non ∧ Q (.bl (decide (x = .non))) H) := by
  intro pins s σ H x y v u Q I rx ry h
  obtain ⟨rfl, q⟩ := h
  cases ry
  refine is_none_gen (fin_bl I q ?_)
  cases x <;> first
    | (cases rx; rfl)
    | (obtain ⟨t, rfl⟩ := rx; rfl)
    | (obtain ⟨t, rfl, _⟩ := rx; rfl)
theorem op_notN : OpR X (compareOp .IsNot) (fun x y H Q => y = .non ∧ Q (.bl (!decide (x = .non))) H) := by
  intro pins s σ H x y v u Q I rx ry h
  obtain ⟨rfl, q⟩ := h
  cases ry
  refine isnot_none_gen (fin_bl I q ?_)
  cases x <;> first
    | (cases rx; rfl)
    | (obtain ⟨t, rfl⟩ := rx; rfl)
    | (obtain ⟨t, rfl, _⟩ := rx; rfl)

theorem op_notin_str : OpR X (compareOp .NotIn) (fun x y H Q => ∃ i j, x = .str i ∧ y = .str j ∧ Q (.bl (!(!(Builtin.Str.occurrences j i 0 j.length 1).isEmpty))) H) := by
  intro pins s σ H x y v u Q I rx ry h
  obtain ⟨i, j, rfl, rfl, q⟩ := h
  obtain ⟨t, rfl⟩ := rx
  obtain ⟨t', rfl⟩ := ry
  exact notIn_str (fin_bl I q rfl)
/-- is, is not of two objects that are tracked lists or instances -/
def isObj : HO → Bool
  | .lst _ => true
  | .ins _ _ _ => true
  | _ => false
theorem obj_there {pins : List (Addr × Obj)} {s : Shared} {σ : St} {H : Hp} {a : Addr} {o : HO} (I : Inv X pins σ H s) (h : H a = some o) (p : isObj o = true) : ∃ ob, s.heap.get? a = some ob ∧ ob.cls ≠ .type "tuple" := by
  cases o with
  | lst xs =>
    obtain ⟨_, its, n, _, e⟩ : xs.length ≤ sizeLine ∧ ∃ (its : List Value) (n : Nat), Vals xs its ∧ s.heap.get? a = some { cls := .type "list", data := .seq its.toArray n } := I.hok a _ h
    exact ⟨_, e, (by show Value.type "list" ≠ .type "tuple"; decide +kernel)⟩
  | ins C dx fs =>
    have x := I.hok a _ h
    obtain ⟨_, _, _, e, _⟩ := x
    exact ⟨_, e, (by show Value.ref C ≠ .type "tuple"; exact fun z => by cases z)⟩
  | _ => exact absurd (show false = true from p) Bool.false_ne_true
theorem op_is_ref : OpR X (compareOp .Is) (fun x y H Q => ∃ a b oa ob, x = .ref a ∧ y = .ref b ∧ H a = some oa ∧ isObj oa = true ∧ H b = some ob ∧ isObj ob = true ∧ Q (.bl (decide (a = b))) H) := by
  intro pins s σ H x y v u Q I rx ry h
  obtain ⟨a, b, oa, ob, rfl, rfl, ha, pa, hb, pb, q⟩ := h
  cases rx
  cases ry
  obtain ⟨o1, e1, n1⟩ := obj_there I ha pa
  obtain ⟨o2, e2, _⟩ := obj_there I hb pb
  by_cases z : a = b
  · subst z
    exact wpAny_is_ref_self (fin_bl I q (by simp))
  · exact wpAny_is_ref_other z e1 e2 n1 (fin_bl I q (by simp [z]))
theorem op_isnot_ref : OpR X (compareOp .IsNot) (fun x y H Q => ∃ a b oa ob, x = .ref a ∧ y = .ref b ∧ H a = some oa ∧ isObj oa = true ∧ H b = some ob ∧ isObj ob = true ∧ Q (.bl (!decide (a = b))) H) := by
  intro pins s σ H x y v u Q I rx ry h
  obtain ⟨a, b, oa, ob, rfl, rfl, ha, pa, hb, pb, q⟩ := h
  cases rx
  cases ry
  obtain ⟨o1, e1, n1⟩ := obj_there I ha pa
  obtain ⟨o2, e2, _⟩ := obj_there I hb pb
  by_cases z : a = b
  · subst z
    exact wpAny_isNot_ref_self (fin_bl I q (by simp))
  · exact wpAny_isNot_ref_other z e1 e2 n1 (fin_bl I q (by simp [z]))

/-- two rules for one operation: by cases -/
theorem OpR.or {f : Value → Value → Sem Value} {r r' : R2} (h : OpR X f r) (h' : OpR X f r') : OpR X f (fun x y H Q => r x y H Q ∨ r' x y H Q) := by
  intro pins s σ H x y v u Q I rx ry q
  rcases q with q | q
  · exact h pins s σ H x y v u Q I rx ry q
  · exact h' pins s σ H x y v u Q I rx ry q

theorem nomark (b : Expr) {op : CmpOp} (h : op ≠ .In := by decide) (h2 : op ≠ .NotIn := by decide) : behindInMarks op b = false := by
  have e1 : (op == CmpOp.In) = false := by cases op <;> first | rfl | exact absurd rfl h
  have e2 : (op == CmpOp.NotIn) = false := by cases op <;> first | rfl | exact absurd rfl h2
  cases b <;> simp [behindInMarks, e1, e2]
/-- a comparison as a value; hm: nomark b, or (for in, not in) by with_unfolding_all rfl -/
theorem pe_cmpR {op : CmpOp} {r : R2} (ho : OpR X (compareOp op) r) (ha : PE X a ta) (hb : PE X b tb) (hm : behindInMarks op b = false) : PE X (.Compare a [op] [b] pos) (tOp r ta tb) := by
  intro pins s σ H Q I h
  exact wpAny_Compare1 (binT ha hb I h fun v u s2 x y H2 I2 rx ry q => ho pins s2 σ H2 x y v u Q I2 rx ry q) hm
/-- a reading of a value as a test -/
def tTest (t : TE) : TT := fun σ H Q => t σ H fun x H' => ∃ k, x = .bl k ∧ Q k H'
theorem pt_cmpR {op : CmpOp} {r : R2} (ho : OpR X (compareOp op) r) (ha : PE X a ta) (hb : PE X b tb) (hm : behindInMarks op b = false) : PT X (.Compare a [op] [b] pos) (tTest (tOp r ta tb)) := by
  intro pins s σ H Q I h
  refine wpAny_isTrue_Compare1 (thn (ha pins s σ H _ I h) fun v s1 ⟨x, H1, I1, r1, q1⟩ => thn (hb pins s1 σ H1 _ I1 q1) fun u s2 ⟨y, H2, I2, r2, q2⟩ =>
    thn (ho pins s2 σ H2 x y v u _ I2 r1 r2 q2) fun c s3 ⟨z, H3, I3, r3, k, e, q3⟩ => ?_) hm
  subst e
  cases r3
  exact wpAny_truthy_bool ⟨H3, I3, q3⟩
/-- a op1 b op2 c -/
def tChain (r r' : R2) (ta tb tc : TE) : TE := fun σ H Q => ta σ H fun x H1 => tb σ H1 fun y H2 => r x y H2 fun z H3 => ∃ k, z = .bl k ∧
  (if k = true then tc σ H3 fun w' H4 => r' y w' H4 Q else Q (.bl false) H3)
theorem pe_chain {op op' : CmpOp} {r r' : R2} (ho : OpR X (compareOp op) r) (ho' : OpR X (compareOp op') r') (ha : PE X a ta) (hb : PE X b tb) (hc : PE X c tc)
    (hm : lastMarks [op, op'] [b, c] = false := by with_unfolding_all rfl) : PE X (.Compare a [op, op'] [b, c] pos) (tChain r r' ta tb tc) := by
  intro pins s σ H Q I h
  refine Compare_chain (thn (ha pins s σ H _ I h) fun v s1 ⟨x, H1, I1, r1, q1⟩ => chain_link (thn (hb pins s1 σ H1 _ I1 q1) fun u s2 ⟨y, H2, I2, r2, q2⟩ =>
    thn (ho pins s2 σ H2 x y v u _ I2 r1 r2 q2) fun d s3 ⟨z, H3, I3, r3, k, e, q3⟩ => ?_)) hm
  subst e
  cases r3
  refine wpAny_truthy_bool ?_
  cases k with
  | false => exact ite_ff ⟨.bl false, H3, I3, rfl, q3⟩
  | true => exact ite_tt (chain_last (thn (hc pins s3 σ H3 _ I3 q3) fun w' s4 ⟨z', H4, I4, r4, q4⟩ => ho' pins s4 σ H4 y z' u w' Q I4 r2 r4 q4))
theorem pt_chain {op op' : CmpOp} {r r' : R2} (ho : OpR X (compareOp op) r) (ho' : OpR X (compareOp op') r') (ha : PE X a ta) (hb : PE X b tb) (hc : PE X c tc)
    (hm : lastMarks [op, op'] [b, c] = false := by with_unfolding_all rfl) : PT X (.Compare a [op, op'] [b, c] pos) (tTest (tChain r r' ta tb tc)) := by
  intro pins s σ H Q I h
  refine isTrue_chain (thn (ha pins s σ H _ I h) fun v s1 ⟨x, H1, I1, r1, q1⟩ => test_link (thn (hb pins s1 σ H1 _ I1 q1) fun u s2 ⟨y, H2, I2, r2, q2⟩ =>
    thn (ho pins s2 σ H2 x y v u _ I2 r1 r2 q2) fun d s3 ⟨z, H3, I3, r3, k, e, q3⟩ => ?_)) hm
  subst e
  cases r3
  refine wpAny_truthy_bool ?_
  cases k with
  | false =>
    obtain ⟨k', e', q'⟩ := q3
    cases e'
    exact ite_ff ⟨H3, I3, q'⟩
  | true =>
    refine ite_tt (test_last (thn (hc pins s3 σ H3 _ I3 q3) fun w' s4 ⟨z', H4, I4, r4, q4⟩ => thn (ho' pins s4 σ H4 y z' u w' _ I4 r2 r4 q4) fun d' s5 ⟨z2, H5, I5, r5, k2, e2, q5⟩ => ?_))
    subst e2
    cases r5
    exact wpAny_truthy_bool ⟨H5, I5, q5⟩

/-! ### truth -/
/-- a value's truth by the abstract heap -/
def TruV (K : PySem.W.Frag) (x : V) (H : Hp) (k : Bool) : Prop :=
  match x with
  | .non => k = false
  | .bl b => k = b
  | .int i => k = (i != 0)
  | .str y => y.length ≤ sizeLine ∧ k = ((y.length : Int) != 0)
  | .byt y => y.size ≤ sizeLine ∧ k = ((y.size : Int) != 0)
  | .ref p => (∃ xs, SqL K H p xs ∧ k = !xs.isEmpty) ∨ (∃ xs, SqT K H p xs ∧ k = !xs.isEmpty) ∨ ∃ kvs, H p = some (.dK kvs) ∧ k = !kvs.isEmpty
  | _ => False
theorem isEmpty_kv {κ : Type} {kvs : List (κ × V)} {vs : List (κ × Value)} (r : KV kvs vs) : (!vs.isEmpty) = !kvs.isEmpty := by
  cases r <;> rfl
theorem isEmpty_of {xs : List V} {its : List Value} (r : Vals xs its) : (!its.toArray.isEmpty) = !xs.isEmpty := by
  cases r <;> simp
theorem line63 : (sizeLine : Nat) < 2 ^ 63 := by rw [sizeLine_eq]; decide
theorem tru_ok : TruR X (fun x H Q => ∃ k, TruV X.K x H k ∧ Q k H) := by
  intro pins s σ H x v Q I rx h
  obtain ⟨k, e, q⟩ := h
  have hl := line63
  have hs : sizeLine = 16777216 := sizeLine_eq
  cases x with
  | non =>
    cases rx
    have e' : k = false := e
    subst e'
    exact truthy_none ⟨H, I, q⟩
  | bl b =>
    cases rx
    have e' : k = b := e
    subst e'
    exact wpAny_truthy_bool ⟨H, I, q⟩
  | int i =>
    obtain ⟨t, rfl⟩ := rx
    have e' : k = (i != 0) := e
    subst e'
    exact PySem.P.truthy_int ⟨H, I, q⟩
  | str y =>
    obtain ⟨t, rfl⟩ := rx
    obtain ⟨hy, e'⟩ : y.length ≤ sizeLine ∧ k = ((y.length : Int) != 0) := e
    subst e'
    exact PySem.P.truthy_str (by omega) ⟨H, I.tok _, q⟩
  | byt y =>
    obtain ⟨t, rfl⟩ := rx
    obtain ⟨hy, e'⟩ : y.size ≤ sizeLine ∧ k = ((y.size : Int) != 0) := e
    subst e'
    exact PySem.W.truthy_bytes (by omega) ⟨H, I.tok _, q⟩
  | ref p =>
    cases rx
    have e' : (∃ xs, SqL X.K H p xs ∧ k = !xs.isEmpty) ∨ (∃ xs, SqT X.K H p xs ∧ k = !xs.isEmpty) ∨ ∃ kvs, H p = some (.dK kvs) ∧ k = !kvs.isEmpty := e
    rcases e' with ⟨xs, hx, e'⟩ | ⟨xs, hx, e'⟩ | ⟨kvs, hx, e'⟩
    · subst e'
      obtain ⟨its, r, pl, hz⟩ := I.list hx
      have hlen := r.length
      exact wpAny_truthy_list pl.isList (by simp only [List.size_toArray]; omega) ⟨H, I.tok _, by rw [isEmpty_of r]; exact q⟩
    · subst e'
      obtain ⟨its, r, pl, hz⟩ := I.tuple hx
      have hlen := r.length
      exact truthy_tuple pl (by simp only [List.size_toArray]; omega) ⟨H, I.tok _, by rw [isEmpty_of r]; exact q⟩
    · subst e'
      obtain ⟨hz, hS, vs, r, m⟩ : kvs.length ≤ sizeLine ∧ (p == sysModules) = false ∧ ∃ vs, KV kvs vs ∧ s.heap.DictOf (mixKind X.prog X.w) p vs := I.hok p _ hx
      have hlen : kvs.length = vs.length := Paired.length r
      exact wpAny_truthy_dict hS m (by omega) ⟨H, I.tok _, by rw [isEmpty_kv r]; exact q⟩
  | _ => exact (show False from e).elim
/-- any expression whose test is its value's truth (a name, a call, a subscript, a field ..: he by fun _ => rfl) -/
theorem pt_truth (ha : PE X a ta) (he : ∀ whole, isTrue a X.env whole = (do let v ← whole; standAt a.pos; holding [v] (truthy v))) :
    PT X a (fun σ H Q => ta σ H fun x H' => ∃ k, TruV X.K x H' k ∧ Q k H') := by
  intro pins s σ H Q I h
  exact isTrue_plain (thn (ha pins s σ H _ I h) fun v s1 ⟨x, H1, I1, r1, q1⟩ => tru_ok pins s1 σ H1 x v Q I1 r1 q1) (he _)

/-! ### strs and bytes -/
theorem pe_byt {x : List UInt8} {k : Nat} : PE X (.Constant (.bytes x) k pos) (fun _ H Q => Q (.byt x.toArray) H) := fun _ _ _ H _ I h => PySem.W.Constant_bytes ⟨.byt x.toArray, H, I.tok _, ⟨_, rfl⟩, h⟩
theorem op_add_str : OpR X (binaryOp .Add) (fun x y H Q => ∃ i j, x = .str i ∧ y = .str j ∧ i.length + j.length ≤ sizeLine ∧ Q (.str (i ++ j)) H) := by
  intro pins s σ H x y v u Q I rx ry h
  obtain ⟨i, j, rfl, rfl, hz, q⟩ := h
  obtain ⟨t, rfl⟩ := rx
  obtain ⟨t', rfl⟩ := ry
  exact wpAny_with_toks (Nat.le_refl _) (add_str (fun t' tk htk => ⟨.str (i ++ j), H, I.tok _ htk, ⟨_, rfl⟩, q⟩) hz)
theorem iop_add_str : OpR X (inplaceOp .Add) (fun x y H Q => ∃ i j, x = .str i ∧ y = .str j ∧ i.length + j.length ≤ sizeLine ∧ Q (.str (i ++ j)) H) := by
  intro pins s σ H x y v u Q I rx ry h
  obtain ⟨i, j, rfl, rfl, hz, q⟩ := h
  obtain ⟨t, rfl⟩ := rx
  obtain ⟨t', rfl⟩ := ry
  exact wpAny_with_toks (Nat.le_refl _) (iadd_str (fun t' tk htk => ⟨.str (i ++ j), H, I.tok _ htk, ⟨_, rfl⟩, q⟩) hz)
theorem op_add_byt : OpR X (binaryOp .Add) (fun x y H Q => ∃ i j, x = .byt i ∧ y = .byt j ∧ i.size + j.size ≤ 16777216 ∧ Q (.byt (i ++ j)) H) := by
  intro pins s σ H x y v u Q I rx ry h
  obtain ⟨i, j, rfl, rfl, hz, q⟩ := h
  obtain ⟨t, rfl⟩ := rx
  obtain ⟨t', rfl⟩ := ry
  exact wpAny_with_toks (Nat.le_refl _) (PySem.W.KBy.add_bytes hz (fun t' tk htk => ⟨.byt (i ++ j), H, I.tok _ htk, ⟨_, rfl⟩, q⟩))

def PlainIxT (b : Expr) : Prop := ∀ o i, subscripted b false o i = operate [o, i] (getItem o i)
/-- s[i], 0 ≤ i < len -/
theorem pe_item_str (ha : PE X a ta) (hb : PE X b tb) (hs : PlainIxT b) :
    PE X (.Subscript a b pos) (tOp (fun x y H Q => ∃ z i c, x = .str z ∧ y = .int i ∧ 0 ≤ i ∧ i < 2 ^ 63 ∧ i < z.length ∧ z.cps[i.toNat]? = some c ∧ Q (.str ⟨#[c]⟩) H) ta tb) := by
  intro pins s σ H Q I h
  refine Subscript_ (binT ha hb I h fun v u s2 x y H2 I2 rx ry q => ?_)
  obtain ⟨z, i, c, rfl, rfl, h0, h63, h1, hc, q⟩ := q
  obtain ⟨t, rfl⟩ := rx
  obtain ⟨t', rfl⟩ := ry
  have e : seqIndex? i z.length = some i.toNat := PySem.StrLaws.seqIndex_nonneg h0 h1
  exact tail_any (typeIs_str s2 z t) slot_str_getitem.lookup (getItem_str (c := c) (by
    have e1 : decide (i < -(2 ^ 63 : Int)) = false := decide_eq_false (by omega)
    have e2 : decide (i ≥ 2 ^ 63) = false := decide_eq_false (by omega)
    rw [e1, e2] <;> rfl) (by rw [e]; exact hc) ⟨.str ⟨#[c]⟩, H2, I2.tok _, ⟨_, rfl⟩, q⟩) (hs _ _)
/-- b[i], 0 ≤ i < len -/
theorem pe_item_byt (ha : PE X a ta) (hb : PE X b tb) (hs : PlainIxT b) :
    PE X (.Subscript a b pos) (tOp (fun x y H Q => ∃ (z : List UInt8) (i : Int), x = .byt z.toArray ∧ y = .int i ∧ z.length ≤ sizeLine ∧ 0 ≤ i ∧ i < z.length ∧ Q (.int ((z.getD i.toNat 0).toNat : Nat)) H) ta tb) := by
  intro pins s σ H Q I h
  refine Subscript_ (binT ha hb I h fun v u s2 x y H2 I2 rx ry q => ?_)
  obtain ⟨z, i, rfl, rfl, hz, h0, h1, q⟩ := q
  obtain ⟨t, rfl⟩ := rx
  obtain ⟨t', rfl⟩ := ry
  have hl : sizeLine = 16777216 := sizeLine_eq
  exact tail_any (PySem.W.typeIs_bytes s2 z.toArray t) PySem.W.FB.slot_bytes_getitem.lookup (PySem.W.getItem_bytes (by omega) h0 h1 ⟨.int ((z.getD i.toNat 0).toNat : Nat), H2, I2.tok _, ⟨_, rfl⟩, q⟩) (hs _ _)

/-! ### scalar builtins, by CallR -/
theorem vals1 {x : V} {us : List Value} (r : Vals [x] us) : ∃ u, us = [u] ∧ RelV x u := by
  cases r with
  | cons r1 r2 => cases r2; exact ⟨_, rfl, r1⟩
theorem vals2 {x y : V} {us : List Value} (r : Vals [x, y] us) : ∃ u w', us = [u, w'] ∧ RelV x u ∧ RelV y w' := by
  cases r with
  | cons r1 r2 =>
    cases r2 with
    | cons r3 r4 => cases r4; exact ⟨_, _, rfl, r1, r3⟩
theorem call_abs : CallR X (.builtin "abs") (fun xs H Q => ∃ i, xs = [.int i] ∧ Q (.int (if i < 0 then -i else i)) H) := by
  intro pins s σ H xs us Q I r h
  obtain ⟨i, rfl, q⟩ := h
  obtain ⟨u, rfl, t, rfl⟩ := vals1 r
  exact wpAny_with_toks (Nat.le_refl _) (call_abs_int fun u tk htk => ⟨.int (if i < 0 then -i else i), H, I.tok _ htk, ⟨_, rfl⟩, q⟩)
theorem call_max2 (hc : X.calm = true) : CallR X (.builtin "max") (fun xs H Q => ∃ i j, xs = [.int i, .int j] ∧ Q (.int (if j > i then j else i)) H) := by
  intro pins s σ H xs us Q I r h
  obtain ⟨i, j, rfl, q⟩ := h
  obtain ⟨u, w', rfl, ⟨t, rfl⟩, ⟨t', rfl⟩⟩ := vals2 r
  refine wpAny_with_toks (Nat.le_refl _) (max_two_ints (I.ok.hd hc) fun h' tk k htk => ⟨_, H, I.kept k htk, ?_, q⟩)
  by_cases hj : j > i
  · rw [if_pos hj, if_pos hj]; exact ⟨_, rfl⟩
  · rw [if_neg hj, if_neg hj]; exact ⟨_, rfl⟩
theorem call_min2 (hc : X.calm = true) : CallR X (.builtin "min") (fun xs H Q => ∃ i j, xs = [.int i, .int j] ∧ Q (.int (if j < i then j else i)) H) := by
  intro pins s σ H xs us Q I r h
  obtain ⟨i, j, rfl, q⟩ := h
  obtain ⟨u, w', rfl, ⟨t, rfl⟩, ⟨t', rfl⟩⟩ := vals2 r
  refine wpAny_with_toks (Nat.le_refl _) (min_two_ints (I.ok.hd hc) fun h' tk k htk => ⟨_, H, I.kept k htk, ?_, q⟩)
  by_cases hj : j < i
  · rw [if_pos hj, if_pos hj]; exact ⟨_, rfl⟩
  · rw [if_neg hj, if_neg hj]; exact ⟨_, rfl⟩
theorem call_int1 : CallR X (.type "int") (fun xs H Q => (∃ i, xs = [.int i] ∧ Q (.int i) H) ∨ ∃ k, xs = [.bl k] ∧ Q (.int (if k then 1 else 0)) H) := by
  intro pins s σ H xs us Q I r h
  rcases h with ⟨i, rfl, q⟩ | ⟨k, rfl, q⟩
  · obtain ⟨u, rfl, t, rfl⟩ := vals1 r
    exact call_int_int ⟨.int i, H, I, ⟨_, rfl⟩, q⟩
  · obtain ⟨u, rfl, r1⟩ := vals1 r
    cases r1
    exact call_int_bool ⟨.int (if k then 1 else 0), H, I.tok _, ⟨_, rfl⟩, q⟩
theorem call_bool1 : CallR X (.type "bool") (fun xs H Q => (∃ i, xs = [.int i] ∧ Q (.bl (i != 0)) H) ∨ ∃ k, xs = [.bl k] ∧ Q (.bl k) H) := by
  intro pins s σ H xs us Q I r h
  rcases h with ⟨i, rfl, q⟩ | ⟨k, rfl, q⟩
  · obtain ⟨u, rfl, t, rfl⟩ := vals1 r
    exact call_bool_int ⟨.bl (i != 0), H, I, rfl, q⟩
  · obtain ⟨u, rfl, r1⟩ := vals1 r
    cases r1
    exact call_bool_bool ⟨.bl k, H, I, rfl, q⟩
theorem call_str_int : CallR X (.type "str") (fun xs H Q => ∃ i, xs = [.int i] ∧ i.natAbs.log2 < 1920 ∧ Q (.str (toString i)) H) := by
  intro pins s σ H xs us Q I r h
  obtain ⟨i, rfl, hz, q⟩ := h
  obtain ⟨u, rfl, t, rfl⟩ := vals1 r
  exact PySem.P.str_of_int hz ⟨.str _, H, I.tok _, ⟨_, rfl⟩, q⟩
theorem call_ord : CallR X (.builtin "ord") (fun xs H Q => ∃ x, xs = [.str x] ∧ x.length = 1 ∧ Q (.int (x.cps.getD 0 0 : Nat)) H) := by
  intro pins s σ H xs us Q I r h
  obtain ⟨x, rfl, hz, q⟩ := h
  obtain ⟨u, rfl, t, rfl⟩ := vals1 r
  exact ord_of_one hz ⟨.int _, H, I.tok _, ⟨_, rfl⟩, q⟩
theorem call_chr : CallR X (.builtin "chr") (fun xs H Q => ∃ i, xs = [.int i] ∧ 0 ≤ i ∧ i ≤ 1114111 ∧ Q (.str ⟨#[i.toNat]⟩) H) := by
  intro pins s σ H xs us Q I r h
  obtain ⟨i, rfl, h0, h1, q⟩ := h
  obtain ⟨u, rfl, t, rfl⟩ := vals1 r
  exact chr_of_range h0 h1 ⟨.str _, H, I.tok _, ⟨_, rfl⟩, q⟩
/-- len of a str, a bytes, a list, a tuple -/
def LenV (K : PySem.W.Frag) (x : V) (H : Hp) (n : Nat) : Prop :=
  match x with
  | .str y => y.length ≤ sizeLine ∧ n = y.length
  | .byt y => y.size ≤ sizeLine ∧ n = y.size
  | .ref p => (∃ xs, SqL K H p xs ∧ n = xs.length) ∨ ∃ xs, SqT K H p xs ∧ n = xs.length
  | _ => False
theorem call_len : CallR X (.builtin "len") (fun xs H Q => ∃ x n, xs = [x] ∧ LenV X.K x H n ∧ Q (.int n) H) := by
  intro pins s σ H xs us Q I r h
  obtain ⟨x, n, rfl, e, q⟩ := h
  obtain ⟨u, rfl, rx⟩ := vals1 r
  have hl := line63
  have hs : sizeLine = 16777216 := sizeLine_eq
  cases x with
  | str y =>
    obtain ⟨t, rfl⟩ := rx
    obtain ⟨hy, e'⟩ : y.length ≤ sizeLine ∧ n = y.length := e
    subst e'
    exact len_str (by omega) ⟨.int _, H, I.tok _, ⟨_, rfl⟩, q⟩
  | byt y =>
    obtain ⟨t, rfl⟩ := rx
    obtain ⟨hy, e'⟩ : y.size ≤ sizeLine ∧ n = y.size := e
    subst e'
    exact PySem.W.len_bytes (by omega) ⟨.int _, H, I.tok _, ⟨_, rfl⟩, q⟩
  | ref p =>
    cases rx
    have e' : (∃ xs, SqL X.K H p xs ∧ n = xs.length) ∨ ∃ xs, SqT X.K H p xs ∧ n = xs.length := e
    rcases e' with ⟨xs, hx, e'⟩ | ⟨xs, hx, e'⟩
    · subst e'
      obtain ⟨its, r', pl, hz⟩ := I.list hx
      have hlen := r'.length
      exact Calls.call_len_list pl.isList (by simp only [List.size_toArray]; omega) ⟨.int xs.length, H, I.tok _, ⟨_, by simp only [List.size_toArray]; rw [hlen]⟩, q⟩
    · subst e'
      obtain ⟨its, r', pl, hz⟩ := I.tuple hx
      have hlen := r'.length
      exact len_tuple pl (by simp only [List.size_toArray]; omega) ⟨.int xs.length, H, I.tok _, ⟨_, by simp only [List.size_toArray]; rw [hlen]⟩, q⟩
  | _ => exact (show False from e).elim
/-- divmod: a new tuple -/
theorem call_divmod : CallR X (.builtin "divmod") (fun xs H Q => ∃ i j, xs = [.int i, .int j] ∧ CDiv i j ∧ ∀ p, H p = none → Q (.ref p) (upd H p (.tup [.int (i / j), .int (i % j)]))) := by
  intro pins s σ H xs us Q I r h
  obtain ⟨i, j, rfl, ⟨h1, h2⟩, q⟩ := h
  obtain ⟨u, w', rfl, ⟨t, rfl⟩, ⟨t', rfl⟩⟩ := vals2 r
  refine divmod_int (by omega) ?_ (.inl (PyProof.noPylong_small (by omega)))
  rw [Int.fdiv_eq_ediv_of_nonneg i (by omega), Int.fmod_eq_emod_of_nonneg i (by omega)]
  have hn : H s.heap.objs.size = none := I.hok.fresh (Nat.le_refl _)
  refine ⟨.ref s.heap.objs.size, _, ?_, rfl, q _ hn⟩
  refine I.laid (fun b o e => Heap.get?_push_of_some _ e) (Nat.le_refl _) ⟨by simp only [List.length_cons, List.length_nil]; rw [sizeLine_eq]; decide, [.int (i / j) s.toks, .int (i % j) (s.toks + 1)], .cons ⟨_, rfl⟩ (.cons ⟨_, rfl⟩ .nil), ?_⟩
  exact ⟨_, Heap.get?_push_size s.heap rfl, rfl, 0, rfl⟩
end
end L2

namespace L2
open PySem PySem.Spec PyProof.Rows

/-! ### an instance, its attributes a map -/
structure ObjM (h : Heap) (x dx C : Addr) (mA : Str → Option Value) : Prop where
  obj : h.get? x = some (PySem.W.instObj C dx)
  ns : h.Ns1 dx mA
  ne : dx ≠ x

theorem lookIn_ns {h : Heap} {dx : Addr} {mA : Str → Option Value} (n : h.Ns1 dx mA) : ∃ od, h.get? dx = some od ∧ ∀ name, PySem.W.lookIn name od = some (mA name) := by
  obtain ⟨o, es, ep, ho, hd, hk, _, hm⟩ := n
  refine ⟨o, ho, fun name => ?_⟩
  have e := hm name
  unfold nsFind findBy at e
  rw [← Array.find?_toList] at e
  unfold PySem.W.lookIn
  rw [hd]
  dsimp only
  split
  · rename_i y q
    rw [q] at e
    exact congrArg some e
  · rename_i q
    rw [q] at e
    have a : es.toList.any (·.refKey) = false := by
      rw [List.any_eq_false]
      intro y hy
      obtain ⟨z, t, hkey⟩ := hk y (Array.mem_toList_iff.mp hy)
      simp [DictEntry.refKey, hkey]
    have a' : ¬ es.toList.any (·.refKey) = true := by rw [a]; exact Bool.false_ne_true
    rw [if_neg a']
    exact congrArg some e

theorem ObjM.look {h : Heap} {x dx C : Addr} {mA : Str → Option Value} (I : ObjM h x dx C mA) : ∃ od, PySem.W.InstAt h x (PySem.W.instObj C dx) C (some od) ∧ ∀ name, PySem.W.lookIn name od = some (mA name) :=
  let ⟨od, ho, hl⟩ := lookIn_ns I.ns
  ⟨od, ⟨I.obj, rfl, rfl, ho⟩, hl⟩

section
variable {prog : Program} {w : World} {A : Around} {E : Value → Shared → Prop} {s : Shared} {K : PySem.W.Frag} {x dx C f : Addr} {mA : Str → Option Value} {name : Str} {v : Value}

theorem get_map {expr : Bool} {Q : Value → Shared → Prop} (X : K.In s.heap) (I : ObjM s.heap x dx C mA) (hg : PySem.W.plainGet K C name = true) (hh : PySem.W.hasDictIn K C = true)
    (ha : PySem.W.findIn K (.ref C) name = some none) (hv : mA name = some v) (hv' : PySem.W.handedIn v = true) (h : Q v { s with toks := s.toks + 1 }) :
    wpAny (model prog w) A (getAttr (.ref x) name expr) Q E s := by
  obtain ⟨od, J, hl⟩ := I.look
  exact PySem.W.get_value X J (PySem.W.plainGet_of hg).1 (PySem.W.findObj_own hh ha rfl (by rw [hl, hv])) hv' h

theorem get_const {expr : Bool} {a : Value} {Q : Value → Shared → Prop} (X : K.In s.heap) (I : ObjM s.heap x dx C mA) (hg : PySem.W.plainGet K C name = true) (hh : PySem.W.hasDictIn K C = true)
    (ha : PySem.W.findIn K (.ref C) name = some (some a)) (hn : PySem.W.specialIn K a "__get__" = some none) (hc : PySem.W.copiedNames.contains name = false) (hv : mA name = none) (hv' : PySem.W.handedIn a = true)
    (h : Q a { s with toks := s.toks + 1 }) : wpAny (model prog w) A (getAttr (.ref x) name expr) Q E s := by
  obtain ⟨od, J, hl⟩ := I.look
  exact PySem.W.get_value X J (PySem.W.plainGet_of hg).1 (PySem.W.findObj_cls hh ha hn hv' hc (by rw [hl, hv])) hv' h

theorem get_meth {pl : Sem Bool} {Q : Value × List Value → Shared → Prop} (X : K.In s.heap) (I : ObjM s.heap x dx C mA) (hg : PySem.W.plainGet K C name = true)
    (hf : PySem.W.findIn K (.ref C) name = some (some (.ref f))) (ht : PySem.W.isFn K (.ref f) = true) (hv : mA name = none) (h : Q (.ref f, [.ref x]) s) :
    wpAny (model prog w) A (getMethod (.ref x) name pl) Q E s := by
  obtain ⟨od, J, hl⟩ := I.look
  exact PySem.W.method_fn X J (PySem.W.plainGet_of hg).1 (PySem.W.plainGet_of hg).2 hf (beq_iff_eq.mp ht) (by show (PySem.W.lookIn name od).map (·.isSome) = some false; rw [hl, hv]; rfl) h

theorem set_map {ns : List Str} {Q : Unit → Shared → Prop} (X : K.In s.heap) (I : ObjM s.heap x dx C mA)
    (hs : PySem.W.findIn K (.ref C) "__setattr__" = some (some (.builtin "object.__setattr__"))) (hp : PySem.W.plainOver K C = true) (ht : PySem.W.takerIn K C name = some none) (hh : PySem.W.hasDictIn K C = true)
    (hw : PySem.Within mA ns) (hsz : ns.length ≤ sizeLine)
    (h : ∀ h', ObjM h' x dx C (fun y => if y = name then some v else mA y) → Heap.SameBut dx s.heap h' → Q () { s with heap := h', toks := s.toks + 2 }) :
    wpAny (model prog w) A (setAttr (.ref x) name v) Q E s := by
  obtain ⟨od, J, hl⟩ := I.look
  refine PySem.W.set_plain X J hs (PySem.W.osa_open (s := { s with toks := s.toks + 1 }) (r := none) X J hp ht fun b => ?_)
  obtain ⟨cd, hc, hd'⟩ := PySem.W.any_some hh
  have hx : s.heap.get? x = some ⟨.ref C, some dx, .plain, #[]⟩ := I.obj
  refine wpAny_bind (wpAny_pure (wpAny_bind (wpAny_bind (wpAny_loadPart hx (wpAny_bind (PySem.W.Looks.here (s := { s with toks := s.toks + 1 }) (PySem.W.looks_clsIn X hc) ?_))))))
  rw [hd']
  refine wpAny_pure (a := some dx) (wpAny_bind (wpAny_pure (wpAny_bind ?_)))
  refine wpAny_nsSet1 (s := { s with toks := s.toks + 1 }) I.ns fun h' hn2 hs2 => ?_
  obtain ⟨oD, esD, epD, hoD, hdD, hcD⟩ := hn2.count (PySem.Within.cons name v hw)
  refine wpAny_bind (wpAny_lookBehind hoD (by rw [hdD]; exact pastItsLine_dict (Nat.le_trans hcD (by rw [List.length_cons]; omega))) ?_)
  exact wpAny_pure (h _ ⟨(hs2.2 _ (Ne.symm I.ne)).trans I.obj, hn2, I.ne⟩ hs2)

/-- C(..): the dict at the heap's end, the instance behind it; then its __init__ -/
theorem make_map {R : Result → Shared → Prop} {vs : List Value} {kw : List (Str × Value)} (X : K.In s.heap) (hm : PySem.W.makesIn K C = true)
    (hi : PySem.W.findIn K (.ref C) "__init__" = some (some (.ref f))) (hf : PySem.W.typeIn K (.ref f) = some (.type "function"))
    (h : codeAny (model prog w) (A.under (.builtin "type.__call__" ⟨.ref C :: vs, kw⟩)) (.call (.ref f) ⟨.ref (s.heap.objs.size + 1) :: vs, kw⟩) (PySem.W.InitBack (s.heap.objs.size + 1) R)
      { s with heap := (s.heap.push PySem.W.emptyDict).push (PySem.W.instObj C s.heap.objs.size) }) :
    codeAny (model prog w) A (.call (.ref C) ⟨vs, kw⟩) R s := by
  obtain ⟨hh, g, d, t, os⟩ := s
  exact PySem.W.make_core (PySem.W.makes_of X hm) (PySem.W.looks_findIn X hi) (fun self => PySem.W.bind_fn X self hf) (.inl rfl) h
/-- C() where there is no __init__ but object's -/
theorem make_map0 {R : Result → Shared → Prop} (X : K.In s.heap) (hm : PySem.W.makesIn K C = true)
    (hi : PySem.W.findIn K (.ref C) "__init__" = some (some (.builtin "object.__init__")))
    (hb : ∀ self, PySem.W.Looks (model prog w) s.heap (bindSpecial (.builtin "object.__init__") self) (.builtin "object.__init__", [self]))
    (h : codeAny (model prog w) (A.under (.builtin "type.__call__" ⟨[.ref C], []⟩)) (.call (.builtin "object.__init__") ⟨[.ref (s.heap.objs.size + 1)], []⟩) (PySem.W.InitBack (s.heap.objs.size + 1) R)
      { s with heap := (s.heap.push PySem.W.emptyDict).push (PySem.W.instObj C s.heap.objs.size) }) :
    codeAny (model prog w) A (.call (.ref C) ⟨[], []⟩) R s := by
  obtain ⟨hh, g, d, t, os⟩ := s
  exact PySem.W.make_core (PySem.W.makes_of X hm) (PySem.W.looks_findIn X hi) hb (.inr ⟨rfl, rfl⟩) h
end

/-! ### the attributes as a list of pairs -/
def putF (f : Str) (v : V) : List (Str × V) → List (Str × V)
  | [] => [(f, v)]
  | (g, x) :: r => if g = f then (g, v) :: r else (g, x) :: putF f v r
theorem lookup_putF (f g : Str) (v : V) : ∀ fs : List (Str × V), (putF f v fs).lookup g = if g = f then some v else fs.lookup g
  | [] => by
    show List.lookup g [(f, v)] = _
    by_cases h : g = f
    · have hb : (g == f) = true := beq_iff_eq.mpr h
      simp only [List.lookup, hb, if_pos h]
    · have hb : (g == f) = false := beq_eq_false_iff_ne.mpr h
      simp only [List.lookup, hb, if_neg h]
  | (k, x) :: r => by
    have ih := lookup_putF f g v r
    rw [show putF f v ((k, x) :: r) = (if k = f then (k, v) :: r else (k, x) :: putF f v r) from rfl]
    by_cases hk : k = f
    · rw [if_pos hk]
      by_cases h : g = k
      · have hb : (g == k) = true := beq_iff_eq.mpr h
        simp only [List.lookup, hb, if_pos (h.trans hk)]
      · have hb : (g == k) = false := beq_eq_false_iff_ne.mpr h
        simp only [List.lookup, hb, if_neg (fun e : g = f => h (e.trans hk.symm))]
    · rw [if_neg hk]
      by_cases h : g = k
      · have hb : (g == k) = true := beq_iff_eq.mpr h
        simp only [List.lookup, hb, if_neg (fun e : g = f => hk (h.symm.trans e))]
      · have hb : (g == k) = false := beq_eq_false_iff_ne.mpr h
        simp only [List.lookup, hb]
        exact ih
theorem keys_putF (f : Str) (v : V) : ∀ fs : List (Str × V), f ∈ (putF f v fs).map (·.1) ∧ ∀ g, g ∈ fs.map (·.1) → g ∈ (putF f v fs).map (·.1)
  | [] => ⟨by simp [putF], fun g h => by simp at h⟩
  | (k, x) :: r => by
    obtain ⟨i1, i2⟩ := keys_putF f v r
    rw [show putF f v ((k, x) :: r) = (if k = f then (k, v) :: r else (k, x) :: putF f v r) from rfl]
    by_cases hk : k = f
    · rw [if_pos hk]
      subst hk
      exact ⟨by simp, fun g h => by simpa using h⟩
    · rw [if_neg hk]
      refine ⟨?_, fun g h => ?_⟩
      · rw [List.map_cons]
        exact List.mem_cons_of_mem _ i1
      · rw [List.map_cons] at h ⊢
        rcases List.mem_cons.mp h with e | e
        · exact List.mem_cons.mpr (.inl e)
        · exact List.mem_cons_of_mem _ (i2 g e)
theorem length_putF (f : Str) (v : V) : ∀ fs : List (Str × V), (putF f v fs).length ≤ fs.length + 1
  | [] => by simp [putF]
  | (k, x) :: r => by
    have ih := length_putF f v r
    rw [show putF f v ((k, x) :: r) = (if k = f then (k, v) :: r else (k, x) :: putF f v r) from rfl]
    by_cases hk : k = f
    · rw [if_pos hk, List.length_cons, List.length_cons]; omega
    · rw [if_neg hk, List.length_cons, List.length_cons]; omega

theorem RelO.some_of {v : V} {o : Option Value} (r : RelO (some v) o) : ∃ u, o = some u ∧ RelV v u := by
  cases o with
  | none => exact (show False from r).elim
  | some u => exact ⟨u, rfl, r⟩
theorem RelO.none_of {o : Option Value} (r : RelO none o) : o = none := by
  cases o with
  | none => rfl
  | some u => exact (show False from r).elim
theorem handed_of {v : V} {u : Value} (r : RelV v u) : PySem.W.handedIn u = true := by
  cases v with
  | old x a n => obtain ⟨t, q, _⟩ := (show ∃ t, u = Value.str x t ∧ _ from r); cases q; rfl
  | non => cases (show u = Value.none from r); rfl
  | bl b => cases (show u = Value.bool b from r); rfl
  | int i => obtain ⟨t, e⟩ := (show ∃ t, u = Value.int i t from r); cases e; rfl
  | str x => obtain ⟨t, e⟩ := (show ∃ t, u = Value.str x t from r); cases e; rfl
  | byt b => obtain ⟨t, e⟩ := (show ∃ t, u = Value.bytes b t from r); cases e; rfl
  | flt b => obtain ⟨t, e⟩ := (show ∃ t, u = Value.float b t from r); cases e; rfl
  | ref a => cases (show u = Value.ref a from r); rfl
  | ty n => cases (show u = Value.type n from r); rfl

section
variable {P : Program} {w : World} {H H' : Hp} {h h' : Heap} {a C dx : Addr} {fs fs' : List (Str × V)}
theorem ins_get (hok : HOk P w H h) (e : H a = some (.ins C dx fs)) : ∃ mA, ObjM h a dx C mA ∧ (∀ f, RelO (fs.lookup f) (mA f)) ∧ PySem.Within mA (fs.map (·.1)) ∧ fs.length ≤ 1000 ∧ H dx = some (.own a) := by
  obtain ⟨d, z, ne, ob, mA, n, r, q⟩ := (show ObjOk P w H h a (.ins C dx fs) from hok a _ e)
  exact ⟨mA, ⟨ob, n, ne⟩, r, q, z, d⟩
end

/-! ### what of the text a class must have -/
structure Cls (K : PySem.W.Frag) (C : Addr) : Prop where
  pg : PySem.W.plainGet K C Str.empty = true
  hd : PySem.W.hasDictIn K C = true
  po : PySem.W.plainOver K C = true
  sa : PySem.W.findIn K (.ref C) "__setattr__" = some (some (.builtin "object.__setattr__"))
theorem Cls.get {K : PySem.W.Frag} {C : Addr} (c : Cls K C) (f : Str) : PySem.W.plainGet K C f = true := c.pg
/-- no class of it has the name -/
def NoAttr (K : PySem.W.Frag) (C : Addr) (f : Str) : Prop := PySem.W.findIn K (.ref C) f = some none
theorem NoAttr.taker {K : PySem.W.Frag} {C : Addr} {f : Str} (n : NoAttr K C f) : PySem.W.takerIn K C f = some none := by
  unfold PySem.W.takerIn
  rw [show PySem.W.findIn K (.ref C) f = some none from n]
  rfl
/-- a constant of the class -/
structure Con (K : PySem.W.Frag) (C : Addr) (f : Str) (v : V) (u : Value) : Prop where
  at_ : PySem.W.findIn K (.ref C) f = some (some u)
  rel : RelV v u
  get : PySem.W.specialIn K u "__get__" = some none
  cp : PySem.W.copiedNames.contains f = false
/-- a method: a plain def of the class or of one above it -/
structure Meth (K : PySem.W.Frag) (C : Addr) (m : Str) (f : Addr) : Prop where
  at_ : PySem.W.findIn K (.ref C) m = some (some (.ref f))
  fn : PySem.W.isFn K (.ref f) = true
  kp : PySem.W.keepIn K (.ref f) = true

section
variable {X : Cx} {pins : List (Addr × Obj)} {σ : St} {H : Hp} {s : Shared} {a C dx : Addr} {fs : List (Str × V)} {f : Str} {v : V} {A : Around} {E : Value → Shared → Prop}

theorem getattr_ok {b : Bool} {Q : Value → Shared → Prop} (I : Inv X pins σ H s) (e : H a = some (.ins C dx fs)) (c : Cls X.K C) (n : NoAttr X.K C f) (l : fs.lookup f = some v)
    (h : ∀ u s', Inv X pins σ H s' → RelV v u → Q u s') : wpAny (model X.prog X.w) A (getAttr (.ref a) f b) Q E s := by
  obtain ⟨mA, O, r, _, _, _⟩ := ins_get I.hok e
  obtain ⟨u, hu, ru⟩ := RelO.some_of (v := v) (o := mA f) (by rw [← l]; exact r f)
  exact get_map I.kIn O (c.get f) c.hd n hu (handed_of ru) (h u _ (I.tok _) ru)

theorem getcon_ok {b : Bool} {u : Value} {Q : Value → Shared → Prop} (I : Inv X pins σ H s) (e : H a = some (.ins C dx fs)) (c : Cls X.K C) (k : Con X.K C f v u) (l : fs.lookup f = none)
    (h : ∀ s', Inv X pins σ H s' → Q u s') : wpAny (model X.prog X.w) A (getAttr (.ref a) f b) Q E s := by
  obtain ⟨mA, O, r, _, _, _⟩ := ins_get I.hok e
  have hn : mA f = none := RelO.none_of (by rw [← l]; exact r f)
  exact get_const I.kIn O (c.get f) c.hd k.at_ k.get k.cp hn (handed_of k.rel) (h _ (I.tok _))

theorem getmeth_ok {m : Str} {g : Addr} {pl : Sem Bool} {Q : Value × List Value → Shared → Prop} (I : Inv X pins σ H s) (e : H a = some (.ins C dx fs)) (c : Cls X.K C) (k : Meth X.K C m g) (l : fs.lookup m = none)
    (h : Q (.ref g, [.ref a]) s) : wpAny (model X.prog X.w) A (getMethod (.ref a) m pl) Q E s := by
  obtain ⟨mA, O, r, _, _, _⟩ := ins_get I.hok e
  have hn : mA m = none := RelO.none_of (by rw [← l]; exact r m)
  exact get_meth I.kIn O (c.get m) k.at_ k.fn hn h

theorem setattr_ok {y : V} {u : Value} {Q : Unit → Shared → Prop} (I : Inv X pins σ H s) (e : H a = some (.ins C dx fs)) (c : Cls X.K C) (n : NoAttr X.K C f) (hl : fs.length < 1000) (ry : RelV y u)
    (h : ∀ s', Inv X pins σ (upd H a (.ins C dx (putF f y fs))) s' → Q () s') : wpAny (model X.prog X.w) A (setAttr (.ref a) f u) Q E s := by
  obtain ⟨mA, O, r, wi, _, ho⟩ := ins_get I.hok e
  have hz : (fs.map (·.1)).length ≤ sizeLine := by rw [List.length_map, sizeLine_eq]; omega
  refine set_map I.kIn O c.sa c.po n.taker c.hd wi hz fun h' O' sb => h _ ?_
  have hd : ∃ o, h'.get? dx = some o := let ⟨o, _, _, e', _⟩ := O'.ns; ⟨o, e'⟩
  refine I.write (x := a) (e := dx) (by rw [e]; exact True.intro) (.inr ho) (fun b q hb z => (sb.2 b hb).trans z) hd ?_
  refine ⟨by rw [upd_ne O.ne]; exact ho, ?_, O.ne, O'.obj, _, O'.ns, fun g => ?_, fun g hg => ?_⟩
  · have := length_putF f y fs; omega
  · show RelO ((putF f y fs).lookup g) (if g = f then some u else mA g)
    rw [lookup_putF]
    by_cases q : g = f
    · rw [if_pos q, if_pos q]; exact ry
    · rw [if_neg q, if_neg q]; exact r g
  · by_cases q : g = f
    · rw [q]; exact (keys_putF f y fs).1
    · refine (keys_putF f y fs).2 g (wi g fun z => hg ?_)
      show (if g = f then some u else mA g) = none
      rw [if_neg q]; exact z

/-- a new instance, tracked, without attributes -/
theorem Inv.made (I : Inv X pins σ H s) : Inv X pins σ (upd (upd H s.heap.objs.size (.own (s.heap.objs.size + 1))) (s.heap.objs.size + 1) (.ins C s.heap.objs.size []))
    { s with heap := (s.heap.push PySem.W.emptyDict).push (PySem.W.instObj C s.heap.objs.size) } := by
  have e1 : (s.heap.push PySem.W.emptyDict).get? s.heap.objs.size = some PySem.W.emptyDict := Heap.get?_push_size s.heap rfl
  have e2 : ((s.heap.push PySem.W.emptyDict).push (PySem.W.instObj C s.heap.objs.size)).get? (s.heap.objs.size + 1) = some (PySem.W.instObj C s.heap.objs.size) := by
    have := Heap.get?_push_size (s.heap.push PySem.W.emptyDict) (o := PySem.W.instObj C s.heap.objs.size) rfl
    rwa [Heap.size_push] at this
  have e3 : (s.heap.push PySem.W.emptyDict).Ns s.heap.objs.size (fun _ => none) := ⟨PySem.W.emptyDict, #[], _, e1, rfl, (fun e he => absurd he (by simp)), fun _ => rfl⟩
  have I1 := I.laid (a := s.heap.objs.size) (o := .own (s.heap.objs.size + 1)) (h' := s.heap.push PySem.W.emptyDict) (t' := s.toks) (fun b u q => Heap.get?_push_of_some _ q) (Nat.le_refl _) ⟨_, e1⟩
  refine I1.laid (a := s.heap.objs.size + 1) (o := .ins C s.heap.objs.size []) (t' := s.toks) (fun b u q => Heap.get?_push_of_some _ q) (Nat.le_of_eq (Heap.size_push _ _)) ?_
  have ne : s.heap.objs.size ≠ s.heap.objs.size + 1 := Nat.ne_of_lt (Nat.lt_succ_self _)
  refine ⟨by rw [upd_ne ne, upd_same], Nat.zero_le _, ne, e2, fun _ => none, (Heap.Ns1.of_empty e3).at fun o q => Heap.get?_push_of_some _ q, fun _ => True.intro, fun y hy => absurd rfl hy⟩

/-- e.f where nothing but the object is asked: through attributeBase (super) and the last hold -/
theorem attr_of {prog : Program} {w : World} {env : Env} {e : Expr} {f : Str} {pos : Pos} {s : Shared} {Q : Value → Shared → Prop} (hb : attributeBase e f env (eval e env) = eval e env)
    (h : wpAny (model prog w) A (eval e env) (fun o s₁ => wpAny (model prog w) A (getAttr o f true) Q E s₁) E s) : wpAny (model prog w) A (eval (.Attribute e f pos) env) Q E s :=
  Attribute_any_ h (by rw [arm_eval_Attribute, hb])
end

/-! ### readings and rules -/
/-- e.f, an attribute of the instance -/
def tFld (K : PySem.W.Frag) (ta : TE) (f : Str) : TE := fun σ H Q => ta σ H fun x H1 => ∃ a C dx fs v, x = .ref a ∧ H1 a = some (.ins C dx fs) ∧ Cls K C ∧ NoAttr K C f ∧ fs.lookup f = some v ∧ Q v H1
/-- e.f, a constant of the class -/
def tCon (K : PySem.W.Frag) (ta : TE) (f : Str) : TE := fun σ H Q => ta σ H fun x H1 => ∃ a C dx fs v u, x = .ref a ∧ H1 a = some (.ins C dx fs) ∧ Cls K C ∧ Con K C f v u ∧ fs.lookup f = none ∧ Q v H1
/-- e.f = value -/
def sFld (K : PySem.W.Frag) (ta tv : TE) (f : Str) : TS := fun D σ H => tv σ H fun y H1 => ta σ H1 fun x H2 => ∃ a C dx fs, x = .ref a ∧ H2 a = some (.ins C dx fs) ∧ Cls K C ∧ NoAttr K C f ∧ fs.length < 1000 ∧
  D.nx σ (upd H2 a (.ins C dx (putF f y fs)))
/-- an augmented operator on two values -/
def InOp (X : Cx) (op : Operator) (rd : V → V → Hp → VK → Prop) : Prop :=
  ∀ (pins : List (Addr × Obj)) (s : Shared) (σ : St) (H : Hp) (x y : V) (u v : Value) (Q : VK), Inv X pins σ H s → RelV x u → RelV y v → rd x y H Q → wpAny (model X.prog X.w) X.A (inplaceOp op u v) (EP X pins σ Q) X.xe s
/-- e.f op= value -/
def sFldAug (K : PySem.W.Frag) (ta tv : TE) (rd : V → V → Hp → VK → Prop) (f : Str) : TS := fun D σ H => ta σ H fun x H1 => ∃ a C dx fs v, x = .ref a ∧ H1 a = some (.ins C dx fs) ∧ Cls K C ∧ NoAttr K C f ∧ fs.lookup f = some v ∧
  tv σ H1 fun y H2 => rd v y H2 fun z H3 => ∃ dx' fs', H3 a = some (.ins C dx' fs') ∧ fs'.length < 1000 ∧ D.nx σ (upd H3 a (.ins C dx' (putF f z fs')))

section
variable {X : Cx} {o e value : Expr} {f : Str} {pos pos' tpos : Pos} {ta tv : TE}
theorem pe_fld (he : PE X e ta) (hb : attributeBase e f X.env (eval e X.env) = eval e X.env) : PE X (.Attribute e f pos) (tFld X.K ta f) := by
  intro pins s σ H Q I h
  refine attr_of hb (thn (he pins s σ H _ I h) fun u s1 ⟨x, H1, I1, rx, a, C, dx, fs, v, ex, ea, c, n, l, q⟩ => ?_)
  subst ex
  obtain rfl : u = Value.ref a := rx
  exact getattr_ok I1 ea c n l fun u' s2 I2 ru => ⟨v, H1, I2, ru, q⟩
theorem pe_con (he : PE X e ta) (hb : attributeBase e f X.env (eval e X.env) = eval e X.env) : PE X (.Attribute e f pos) (tCon X.K ta f) := by
  intro pins s σ H Q I h
  refine attr_of hb (thn (he pins s σ H _ I h) fun u s1 ⟨x, H1, I1, rx, a, C, dx, fs, v, u0, ex, ea, c, k, l, q⟩ => ?_)
  subst ex
  obtain rfl : u = Value.ref a := rx
  exact getcon_ok I1 ea c k l fun s2 I2 => ⟨v, H1, I2, k.rel, q⟩
theorem ps_fld (ha : PE X o ta) (hv : PE X value tv) (hs : swapsWith value (some (.Attribute o f pos')) pos.line X.env = pure false) : PS X (.Assign [.Attribute o f pos'] value pos) (sFld X.K ta tv f) := by
  intro pins s σ H D I h
  refine plainObj_wpAny_Assign_Attribute (thn (hv pins s σ H _ I h) fun u s1 ⟨y, H1, I1, ry, q⟩ => thn (ha pins s1 σ H1 _ I1 q) fun ov s2 ⟨x, H2, I2, rx, a, C, dx, fs, ex, ea, c, n, l, q2⟩ => ?_) hs
  subst ex
  obtain rfl : ov = Value.ref a := rx
  exact setattr_ok I2 ea c n l ry fun s3 I3 => ⟨σ, _, I3, q2⟩
theorem ps_fldaug {op : Operator} {rd : V → V → Hp → VK → Prop} (ha : PE X o ta) (hv : PE X value tv) (hop : InOp X op rd) : PS X (.AugAssign (.Attribute o f tpos) op value pos) (sFldAug X.K ta tv rd f) := by
  intro pins s σ H D I h
  refine wpAny_AugAssign_AttributeAny (thn (ha pins s σ H _ I h) fun ov s1 ⟨x, H1, I1, rx, a, C, dx, fs, v, ex, ea, c, n, l, q⟩ => ?_)
  subst ex
  obtain rfl : ov = Value.ref a := rx
  refine getattr_ok I1 ea c n l fun u s2 I2 ru => thn (hv pins s2 σ H1 _ I2 q) fun w3 s3 ⟨y, H2, I3, ry, q3⟩ => thn (hop pins s3 σ H2 v y u w3 _ I3 ru ry q3) fun w4 s4 ⟨z, H3, I4, rz, dx', fs', ea', l', q4⟩ => ?_
  exact setattr_ok I4 ea' c n l' rz fun s5 I5 => ⟨σ, _, I5, q4⟩
def rAdd : V → V → Hp → VK → Prop := fun x y H Q => ∃ i j, x = .int i ∧ y = .int j ∧ Q (.int (i + j)) H
def rSub : V → V → Hp → VK → Prop := fun x y H Q => ∃ i j, x = .int i ∧ y = .int j ∧ Q (.int (i - j)) H
theorem in_add : InOp X .Add rAdd := by
  rintro pins s σ H x y u v Q I rx ry ⟨i, j, rfl, rfl, q⟩
  obtain ⟨t, rfl⟩ := (show ∃ t, u = Value.int i t from rx)
  obtain ⟨t', rfl⟩ := (show ∃ t', v = Value.int j t' from ry)
  exact PyProof.Rows.iadd_int ⟨.int (i + j), H, I.tok _, ⟨_, rfl⟩, q⟩
theorem in_sub : InOp X .Sub rSub := by
  rintro pins s σ H x y u v Q I rx ry ⟨i, j, rfl, rfl, q⟩
  obtain ⟨t, rfl⟩ := (show ∃ t, u = Value.int i t from rx)
  obtain ⟨t', rfl⟩ := (show ∃ t', v = Value.int j t' from ry)
  exact PyProof.Rows.isub_int ⟨.int (i - j), H, I.tok _, ⟨_, rfl⟩, q⟩

/-- what is between an instance and its method: the tree of a method call -/
theorem methcall_of {pl : Sem Bool} {m : Str} {apos : Pos} {args : List Expr} {pins : List (Addr × Obj)} {s : Shared} {σ : St} {H : Hp} {Q : Value → Shared → Prop} {te : TE} (he : PE X e te) (I : Inv X pins σ H s)
    (h : te σ H fun x H1 => ∃ a C dx fs g, x = .ref a ∧ H1 a = some (.ins C dx fs) ∧ Cls X.K C ∧ Meth X.K C m g ∧ fs.lookup m = none ∧
      ∀ s1, Inv X pins σ H1 s1 → wpAny (model X.prog X.w) X.A (callWith pos (.ref g) [.ref a] (backTo pos (starEach args X.env)) (backToKw pos (keywordEach [] X.env))) Q X.xe s1)
    (ht : eval (.Call (.Attribute e m apos) args [] pos) X.env = (do
      let ov ← eval e X.env
      standAt apos.atName
      let (f, first) ← holding [ov] (getMethod ov m pl)
      callWith pos f first (backTo pos (starEach args X.env)) (backToKw pos (keywordEach [] X.env)))) :
    wpAny (model X.prog X.w) X.A (eval (.Call (.Attribute e m apos) args [] pos) X.env) Q X.xe s := by
  refine PySem.W.methodCall_KW (pl := pl) (thn (he pins s σ H _ I h) fun u s1 ⟨x, H1, I1, rx, a, C, dx, fs, g, ex, ea, c, k, l, q⟩ => ?_) ht
  subst ex
  obtain rfl : u = Value.ref a := rx
  exact getmeth_ok I1 ea c k l (q s1 I1)
end

/-! ### isinstance -/
section
variable {X : Cx} {pins : List (Addr × Obj)} {σ : St} {H : Hp} {s : Shared} {A : Around} {E : Value → Shared → Prop} {Q : Value → Shared → Prop} {c : Value} {b : Bool}
/-- the type of a value, as the fragment's deciders take it; for an instance its class -/
inductive TyOf (K : PySem.W.Frag) (H : Hp) : V → Value → Prop where
  | non : TyOf K H .non (.type "NoneType")
  | bl (x : Bool) : TyOf K H (.bl x) (.type "bool")
  | int (i : Int) : TyOf K H (.int i) (.type "int")
  | str (x : Str) : TyOf K H (.str x) (.type "str")
  | flt (x : UInt64) : TyOf K H (.flt x) (.type "float")
  | lst {a : Addr} {xs : List V} (e : H a = some (.lst xs)) : TyOf K H (.ref a) (.type "list")
  | frz {a : Addr} {o : Obj} {xs : List V} (e : H a = some (.frz o (.lst xs))) : TyOf K H (.ref a) (.type "list")
  | tup {a : Addr} {xs : List V} (e : H a = some (.tup xs)) : TyOf K H (.ref a) (.type "tuple")
  | dK {a : Addr} {kvs : List (Key × V)} (e : H a = some (.dK kvs)) : TyOf K H (.ref a) (.type "dict")
  | dT {a : Addr} {kvs : List (List Key × V)} (e : H a = some (.dT kvs)) : TyOf K H (.ref a) (.type "dict")
  | ins {a C dx : Addr} {fs : List (Str × V)} (e : H a = some (.ins C dx fs)) (cl : Cls K C) (ha : PySem.W.findIn K (.ref C) "__class__" = some (some (.builtin "object.__class__")))
      (hn : PySem.W.specialIn K (.builtin "object.__class__") "__get__" = some (some (.builtin "getset_descriptor.__get__"))) (htk : PySem.W.takesIn K (.builtin "object.__class__") = some true)
      (hm : PySem.W.mroIn K C (.type "object") = some true) : TyOf K H (.ref a) (.ref C)
/-- isinstance(x, c) for one class c, a built-in or an own one: kitOne's answer -/
theorem isinst_ok {x : V} {u t : Value} (I : Inv X pins σ H s) (rx : RelV x u) (ty : TyOf X.K H x t) (e : PySem.W.kitOne X.K t c = some b) (h : ∀ tk, Q (.bool b) { s with toks := tk }) :
    wpAny (model X.prog X.w) A (call (.builtin "isinstance") [u, c]) Q E s := by
  cases ty with
  | non => cases (show u = Value.none from rx); exact PySem.W.kia_one PySem.W.kitx_none I.kIn True.intro e (fun z => nomatch z) h
  | bl y => cases (show u = Value.bool y from rx); exact PySem.W.kia_one PySem.W.kitx_bool I.kIn True.intro e (fun z => nomatch z) h
  | int i => obtain ⟨t, q⟩ := (show ∃ t, u = Value.int i t from rx); cases q; exact PySem.W.kia_one PySem.W.kitx_int I.kIn True.intro e (fun z => nomatch z) h
  | str y => obtain ⟨t, q⟩ := (show ∃ t, u = Value.str y t from rx); cases q; exact PySem.W.kia_one PySem.W.kitx_str I.kIn True.intro e (fun z => nomatch z) h
  | flt y => obtain ⟨t, q⟩ := (show ∃ t, u = Value.float y t from rx); cases q; exact PySem.W.kia_one PySem.W.kitx_float I.kIn True.intro e (fun z => nomatch z) h
  | @lst a xs ea =>
    cases (show u = Value.ref a from rx)
    obtain ⟨_, _, n, _, h1⟩ := (show ObjOk X.prog X.w H s.heap a (.lst xs) from I.hok a _ ea)
    exact PySem.W.kia_one PySem.W.kitx_list I.kIn ⟨_, h1, rfl⟩ e (fun z => nomatch z) h
  | @frz a ob xs ea =>
    cases (show u = Value.ref a from rx)
    obtain ⟨_, _, _, n, _, h1⟩ := (show ObjOk X.prog X.w H s.heap a (.frz ob (.lst xs)) from I.hok a _ ea)
    exact PySem.W.kia_one PySem.W.kitx_list I.kIn ⟨_, h1, rfl⟩ e (fun z => nomatch z) h
  | @tup a xs ea =>
    cases (show u = Value.ref a from rx)
    obtain ⟨_, _, _, p⟩ := (show ObjOk X.prog X.w H s.heap a (.tup xs) from I.hok a _ ea)
    obtain ⟨o, h1, h2, _⟩ := p
    exact PySem.W.kia_one PySem.W.kitx_tuple I.kIn ⟨o, h1, h2⟩ e (fun z => nomatch z) h
  | @dK a kvs ea =>
    cases (show u = Value.ref a from rx)
    obtain ⟨_, _, vs, _, p⟩ := (show ObjOk X.prog X.w H s.heap a (.dK kvs) from I.hok a _ ea)
    obtain ⟨o, es, ep, h1, h2, _⟩ := p
    exact PySem.W.kia_one PySem.W.kitx_dict I.kIn ⟨o, h1, h2.1⟩ e (fun z => nomatch z) h
  | @dT a kvs ea =>
    cases (show u = Value.ref a from rx)
    obtain ⟨_, _, xs, _, o, es, ep, h1, h2, _⟩ := (show ObjOk X.prog X.w H s.heap a (.dT kvs) from I.hok a _ ea)
    exact PySem.W.kia_one PySem.W.kitx_dict I.kIn ⟨o, h1, h2.1⟩ e (fun z => nomatch z) h
  | @ins a C dx fs ea cl ha hn htk hm =>
    cases (show u = Value.ref a from rx)
    obtain ⟨mA, O, _⟩ := ins_get I.hok ea
    obtain ⟨od, J, _⟩ := O.look
    exact PySem.W.kia_one (PySem.W.kitx_own (cl.get _) cl.hd ha hn htk hm) I.kIn J e (fun z => nomatch z) h
end
end L2

namespace L2
open PySem PySem.Spec PyProof.Rows

/-! ### room -/
structure Room (k : Nat) (A : Around) : Prop where
  hd : A.handled = none
  dp : A.depth + 3 * k + 5 < recursionLimit
  un : A.units + 16 * k + 200 < cLine
theorem Room.mono {j k : Nat} {A : Around} (r : Room k A) (h : j ≤ k) : Room j A := ⟨r.hd, by have := r.dp; omega, by have := r.un; omega⟩
theorem Room.deeper {k : Nat} {A : Around} (r : Room (k + 1) A) (env : Env) : Room k (A.deeper env) :=
  ⟨r.hd, by have := r.dp; show A.depth + 1 + 3 * k + 5 < _; omega, by have := r.un; show A.units + 3 + 16 * k + 200 < _; omega⟩
theorem Room.in1 {k : Nat} {A : Around} (r : Room (k + 1) A) : Room k A.in1 :=
  ⟨r.hd, by have := r.dp; show A.depth + 3 * k + 5 < _; omega, by have := r.un; show A.units + 1 + 16 * k + 200 < _; omega⟩
theorem make_depth {A : Around} {C : Addr} {us : List Value} {kw : List (Str × Value)} : (A.under (.builtin "type.__call__" ⟨.ref C :: us, kw⟩)).depth = A.depth + 1 := by
  first | rfl | simp [Around.under, Code.weight, Code.isCreation, Code.isGuard, Code.isCaller, Code.frames, Code.isFrame, guardIds]
theorem make_units {A : Around} {C : Addr} {us : List Value} {kw : List (Str × Value)} : (A.under (.builtin "type.__call__" ⟨.ref C :: us, kw⟩)).units = A.units + 1 := by
  first | rfl | simp [Around.under, Code.cUnits, Code.frames, Code.isFrame]
theorem Room.make {k : Nat} {A : Around} (r : Room (k + 1) A) (C : Addr) (us : List Value) (kw : List (Str × Value)) : Room k (A.under (.builtin "type.__call__" ⟨.ref C :: us, kw⟩)) :=
  ⟨r.hd, by have := r.dp; rw [make_depth]; omega, by have := r.un; rw [make_units]; omega⟩
theorem Room.depth {k : Nat} {A : Around} (r : Room k A) : A.depth < recursionLimit := by have := r.dp; omega
theorem Room.units {k : Nat} {A : Around} (r : Room k A) : A.units + 64 < cLine := by have := r.un; omega
theorem Room.units0 {k : Nat} {A : Around} (r : Room k A) : A.units < cLine := by have := r.un; omega

/-! ### argument lists and displays -/
def tNil : TA := fun _ H Q => Q [] H
def tCons (ta : TE) (tr : TA) : TA := fun σ H Q => ta σ H fun x H1 => tr σ H1 fun xs H2 => Q (x :: xs) H2
section
variable {X : Cx} {e : Expr} {es : List Expr} {te : TE} {t : TA} {pos : Pos}
theorem pa_nil : PA X [] tNil := fun _ _ _ _ H Q I h => Calls.spliced_nil ⟨[], H, I, .nil, h⟩
theorem pa_cons (ha : PE X e te) (hr : PA X es t) (hs : starEach (e :: es) X.env = (false, eval e X.env) :: starEach es X.env := by rfl) : PA X (e :: es) (tCons te t) := by
  intro pos pins s σ H Q I h
  rw [hs]
  show wpAny _ _ (spliced ((false, eval e X.env) :: backTo pos (starEach es X.env))) _ _ s
  refine Calls.spliced_cons (thn (ha pins s σ H _ I h) fun u s1 ⟨x, H1, I1, r1, q1⟩ => ?_)
  exact thn (hr pos pins s1 σ H1 _ I1 q1) fun us s2 ⟨xs, H2, I2, r2, q2⟩ => ⟨x :: xs, H2, I2, .cons r1 r2, q2⟩

/-- a tuple, a list of written items -/
def tTup (t : TA) : TE := fun σ H Q => t σ H fun xs H1 => xs.length ≤ sizeLine ∧ ∀ p, H1 p = none → Q (.ref p) (upd H1 p (.tup xs))
def tLst (t : TA) : TE := fun σ H Q => t σ H fun xs H1 => xs.length ≤ sizeLine ∧ ∀ p, H1 p = none → Q (.ref p) (upd H1 p (.lst xs))
theorem pe_tup {x1} (h : PA X es t) : PE X (.Tuple es x1 pos) (tTup t) := by
  intro pins s σ H Q I hq
  refine wpAny_Tuple_spliced (thn (h pos pins s σ H _ I hq) fun us s1 ⟨xs, H1, I1, r, z, q⟩ => ⟨by rw [← r.length]; exact z, ?_⟩)
  have hf : H1 s1.heap.objs.size = none := I1.hok.fresh (Nat.le_refl _)
  refine ⟨.ref s1.heap.objs.size, upd H1 s1.heap.objs.size (.tup xs), I1.laid (t' := s1.toks) (fun b u e => Heap.get?_push_of_some _ e) (Nat.le_refl _) ?_, rfl, q _ hf⟩
  exact ⟨z, us, r, ⟨_, Heap.get?_push_size _ rfl, rfl, _, rfl⟩⟩
theorem pe_lst (h : PA X es t) : PE X (.List es pos) (tLst t) := by
  intro pins s σ H Q I hq
  refine wpAny_List_spliced (thn (h pos pins s σ H _ I hq) fun us s1 ⟨xs, H1, I1, r, z, q⟩ => ⟨by rw [← r.length]; exact z, ?_⟩)
  have hf : H1 s1.heap.objs.size = none := I1.hok.fresh (Nat.le_refl _)
  refine ⟨.ref s1.heap.objs.size, upd H1 s1.heap.objs.size (.lst xs), I1.laid (t' := s1.toks) (fun b u e => Heap.get?_push_of_some _ e) (Nat.le_refl _) ?_, rfl, q _ hf⟩
  exact ⟨z, us, 0, r, Heap.get?_push_size _ rfl⟩
end

/-! ### what a def promises -/
/-- a def's promise: the bound arguments in the parameters' order, the heap, the wanted end, the wanted exception -/
abbrev Sp := List V → Hp → VK → XK → Prop
/-- how an exception lies behind a call (file 08 gives it): the callers' frames, abstract heap and state ahead of the call, the wish, the exception, the state -/
abbrev CXT := List Env → Hp → Shared → XK → Value → Shared → Prop

/-- the state at a call -/
structure Env0 (P : Program) (w : World) (K : PySem.W.Frag) (mg : Str → Option Value) (base : Heap) (A : Around) (outer : List Env) (s : Shared) (H : Hp) : Prop where
  frames : A.frames = some outer
  mod : Mod K mg base
  bs : ∀ b o, base.get? b = some o → s.heap.get? b = some o ∧ H b = none
  bsz : base.objs.size ≤ s.heap.objs.size
  funs : s.heap.FunFrames base outer
  frf : ∀ b ∈ frs outer, H b = none
  hok : HOk P w H s.heap
  bare : Bar H s.gens s.toks
/-- a call's end -/
def CE (outer : List Env) (P : Program) (w : World) (H : Hp) (s : Shared) (Q : VK) (u : Value) (s' : Shared) : Prop :=
  ∃ v H', s'.os = s.os ∧ Bar H' s'.gens s'.toks ∧ Un (frs outer) [] H H' s.heap s'.heap ∧ HOk P w H' s'.heap ∧ RelV v u ∧ Q v H'
def CR (CX : CXT) (outer : List Env) (P : Program) (w : World) (H : Hp) (s : Shared) (Q : VK) (E : XK) (r : Result) (s' : Shared) : Prop :=
  match r with
  | .ok (.ret u) => CE outer P w H s Q u s'
  | .ok _ => False
  | .error e => CX outer H s E e s'
structure FnOk (P : Program) (w : World) (K : PySem.W.Frag) (mg : Str → Option Value) (base : Heap) (CX : CXT) (k : Nat) (f : Addr) (fd : FuncData) (ps : List Str) (sp : Sp) : Prop where
  len : ∀ vs H Q E, sp vs H Q E → vs.length = ps.length
  run : ∀ (A : Around) (outer : List Env) (s : Shared) (H : Hp) (args : Args) (us : List Value) (vs : List V) (Q : VK) (E : XK), Room k A → Env0 P w K mg base A outer s H → BindsTo s fd args (ps.zip us) → Vals vs us → sp vs H Q E →
    codeAny (model P w) A (.call (.ref f) args) (CR CX outer P w H s Q E) s
theorem FnOk.mono {P : Program} {w : World} {K : PySem.W.Frag} {mg : Str → Option Value} {base : Heap} {CX : CXT} {j k : Nat} {f : Addr} {fd : FuncData} {ps : List Str} {sp : Sp} (F : FnOk P w K mg base CX j f fd ps sp) (h : j ≤ k) :
    FnOk P w K mg base CX k f fd ps sp := ⟨F.len, fun A outer s H args us vs Q E hr => F.run A outer s H args us vs Q E (hr.mono h)⟩
/-- a weaker promise -/
theorem FnOk.imp {P : Program} {w : World} {K : PySem.W.Frag} {mg : Str → Option Value} {base : Heap} {CX : CXT} {k : Nat} {f : Addr} {fd : FuncData} {ps : List Str} {sp sp' : Sp} (F : FnOk P w K mg base CX k f fd ps sp)
    (h : ∀ vs H Q E, sp' vs H Q E → sp vs H Q E) : FnOk P w K mg base CX k f fd ps sp' :=
  ⟨fun vs H Q E q => F.len vs H Q E (h _ _ _ _ q), fun A outer s H args us vs Q E hr he hb hv hs => F.run A outer s H args us vs Q E hr he hb hv (h _ _ _ _ hs)⟩

theorem Env0.make {P : Program} {w : World} {K : PySem.W.Frag} {mg : Str → Option Value} {base : Heap} {A : Around} {outer : List Env} {s : Shared} {H : Hp} (e : Env0 P w K mg base A outer s H) (C : Addr) (us : List Value) (kw : List (Str × Value)) :
    Env0 P w K mg base (A.under (.builtin "type.__call__" ⟨.ref C :: us, kw⟩)) outer s H := ⟨by first | exact e.frames | (simpa [Around.under, Code.envs, Code.isFrame, pushEnvs] using e.frames), e.mod, e.bs, e.bsz, e.funs, e.frf, e.hok, e.bare⟩
theorem Env0.in1 {P : Program} {w : World} {K : PySem.W.Frag} {mg : Str → Option Value} {base : Heap} {A : Around} {outer : List Env} {s : Shared} {H : Hp} (e : Env0 P w K mg base A outer s H) :
    Env0 P w K mg base A.in1 outer s H := ⟨e.frames, e.mod, e.bs, e.bsz, e.funs, e.frf, e.hok, e.bare⟩

section
variable {X : Cx} {pins : List (Addr × Obj)} {σ : St} {H : Hp} {s s' : Shared}
/-- from a body: what a callee wants -/
theorem Inv.env0 (I : Inv X pins σ H s) : Env0 X.prog X.w X.K X.mg X.base X.A X.stack s H :=
  ⟨I.ok.frames, I.ok.mod, I.bs, Nat.le_trans I.ok.bsz I.sz, I.stack, I.stkFree, I.hok, I.bare⟩
/-- behind a call -/
theorem Inv.after {Q : VK} {u : Value} (I : Inv X pins σ H s) (h : CE X.stack X.prog X.w H s Q u s') : EP X pins σ Q u s' := by
  obtain ⟨v, H', os, bare, un, hok, r, q⟩ := h
  obtain ⟨hh, g, d, t, os'⟩ := s'
  obtain rfl : os' = s.os := os
  exact ⟨v, H', I.call (h' := hh) (g' := g) (d' := d) (t' := t) (ch := []) un hok bare (fun b z => absurd z (by simp)), r, q⟩
end

/-! ### calls -/
/-- f(..): the written arguments, then the defaults dvs; E: what is wanted of an exception -/
def tCall (sp : Sp) (dvs : List V) (E : XK) (t : TA) : TE := fun σ H Q => t σ H fun vs H1 => sp (vs ++ dvs) H1 Q E
/-- o.m(..) of an instance of the class at C -/
def tMeth (C : Addr) (m : Str) (sp : Sp) (dvs : List V) (E : XK) (ta : TE) (t : TA) : TE := fun σ H Q => ta σ H fun x H1 => ∃ a dx fs, x = .ref a ∧ H1 a = some (.ins C dx fs) ∧ fs.lookup m = none ∧
  t σ H1 fun vs H2 => sp (x :: (vs ++ dvs)) H2 Q E
/-- C(..): a new instance and its dict, then __init__ -/
def tMake (C : Addr) (sp : Sp) (dvs : List V) (E : XK) (t : TA) : TE := fun σ H Q => t σ H fun vs H1 => ∀ x dx, H1 x = none → H1 dx = none → dx ≠ x →
  sp (.ref x :: (vs ++ dvs)) (upd (upd H1 dx (.own x)) x (.ins C dx [])) (fun v H2 => v = .non ∧ Q (.ref x) H2) E

/-- how the parameters are bound: us the positional arguments, kw the keywords' values by name, ds the defaults that fill up -/
def Binds (K : PySem.W.Frag) (fd : FuncData) (ps : List Str) (ds : List Value) : Prop :=
  ∀ (s : Shared) (us : List Value), K.In s.heap → (us ++ ds).length = ps.length → BindsTo s fd ⟨us, []⟩ (ps.zip (us ++ ds))
/-- every parameter is given -/
theorem Binds.all {K : PySem.W.Frag} {fd : FuncData} {ps : List Str} (h : ∀ us : List Value, us.length = ps.length → bindArgs fd ⟨us, []⟩ = pure (ps.zip us)) : Binds K fd ps [] := fun s us _ hl => by
  rw [List.append_nil] at hl ⊢
  exact .of_eq (h us hl)

/-- an exception of a callee reaches what this body wants of exceptions -/
def Passes (CX : CXT) (X : Cx) (E : XK) : Prop := ∀ (pins : List (Addr × Obj)) (σ : St) (H : Hp) (s : Shared) (e : Value) (s' : Shared), Inv X pins σ H s → CX X.stack H s E e s' → X.xe e s'

section
variable {X : Cx} {CX : CXT} {k : Nat} {f C : Addr} {fd : FuncData} {ps : List Str} {sp : Sp} {dvs : List V} {ds : List Value} {E : XK} {x m : Str} {p pos apos : Pos} {e o : Expr} {es : List Expr} {ta : TE} {t : TA}

/-- the callee runs -/
theorem run_fn {pins : List (Addr × Obj)} {σ : St} {H : Hp} {s : Shared} {Q : VK} {us : List Value} {vs : List V} (F : FnOk X.prog X.w X.K X.mg X.base CX k f fd ps sp) (hr : Room k X.A) (hb : Binds X.K fd ps ds) (hd : Vals dvs ds) (hx : Passes CX X E)
    (I : Inv X pins σ H s) (r : Vals vs us) (h : sp (vs ++ dvs) H Q E) : wpAny (model X.prog X.w) X.A (call (.ref f) us) (EP X pins σ Q) X.xe s := by
  have r2 : Vals (vs ++ dvs) (us ++ ds) := r.append hd
  have hl : (us ++ ds).length = ps.length := by rw [← r2.length]; exact F.len _ _ _ _ h
  refine wpAny_call (codeAny_mono (F.run X.A X.stack s H ⟨us, []⟩ (us ++ ds) (vs ++ dvs) Q E hr I.env0 (hb s us I.kIn hl) r2 h) fun r s' hq => ?_)
  cases r with
  | error e => exact hx pins σ H s e s' I hq
  | ok fl =>
    cases fl with
    | ret u => exact I.after hq
    | next => exact False.elim hq
    | brk => exact False.elim hq
    | cont => exact False.elim hq

theorem pe_call (F : FnOk X.prog X.w X.K X.mg X.base CX k f fd ps sp) (hr : Room k X.A) (hg : Gl X x) (hm : X.mg x = some (.ref f)) (hk : PySem.W.keepIn X.K (.ref f) = true) (hb : Binds X.K fd ps ds) (hd : Vals dvs ds) (hx : Passes CX X E)
    (ha : PA X (e :: es) t) (hdb : (x == ("__debug__" : Str)) = false := by decide) (he : starEach (e :: es) X.env = (false, eval e X.env) :: starEach es X.env := by rfl) (hpl : (backTo pos (starEach es X.env)).any (·.1) = false := by rfl) :
    PE X (.Call (.Name x p) (e :: es) [] pos) (tCall sp dvs E t) := by
  intro pins s σ H Q I h
  refine wpAny_Call_Name_kw (ld_glob I hg hm ?_ hdb)
  refine PySem.W.callWith_K (h₀ := X.base) I.ok.mod.kin hk (thn (ha pos pins s σ H _ I h) fun us s1 ⟨vs, H1, I1, r, q⟩ => ⟨I1.kIn, ?_⟩) he hpl
  exact run_fn F hr hb hd hx I1 r q
theorem pe_call0 (F : FnOk X.prog X.w X.K X.mg X.base CX k f fd ps sp) (hr : Room k X.A) (hg : Gl X x) (hm : X.mg x = some (.ref f)) (hk : PySem.W.keepIn X.K (.ref f) = true) (hb : Binds X.K fd ps ds) (hd : Vals dvs ds) (hx : Passes CX X E)
    (hdb : (x == ("__debug__" : Str)) = false := by decide) : PE X (.Call (.Name x p) [] [] pos) (tCall sp dvs E tNil) := by
  intro pins s σ H Q I h
  refine wpAny_Call_Name_kw (ld_glob I hg hm ?_ hdb)
  exact PySem.W.callWith_K0 I.kIn hk (run_fn (us := []) F hr hb hd hx I .nil h)

/-- o.m(e, ..) -/
theorem pe_meth {pl : Sem Bool} (he : PE X o ta) (c : Cls X.K C) (hm : Meth X.K C m f) (F : FnOk X.prog X.w X.K X.mg X.base CX k f fd ps sp) (hr : Room k X.A) (hb : Binds X.K fd ps ds) (hd : Vals dvs ds) (hx : Passes CX X E) (ha : PA X (e :: es) t)
    (hst : starEach (e :: es) X.env = (false, eval e X.env) :: starEach es X.env := by rfl) (hpl : (backTo pos (starEach es X.env)).any (·.1) = false := by rfl)
    (ht : eval (.Call (.Attribute o m apos) (e :: es) [] pos) X.env = (do
      let ov ← eval o X.env
      standAt apos.atName
      let (f, first) ← holding [ov] (getMethod ov m pl)
      callWith pos f first (backTo pos (starEach (e :: es) X.env)) (backToKw pos (keywordEach [] X.env))) := by rfl) :
    PE X (.Call (.Attribute o m apos) (e :: es) [] pos) (tMeth C m sp dvs E ta t) := by
  intro pins s σ H Q I h
  refine PySem.W.methodCall_KW (pl := pl) (thn (he pins s σ H _ I h) fun u s1 ⟨x, H1, I1, rx, a, dx, fs, ex, ea, l, q⟩ => ?_) ht
  subst ex
  obtain rfl : u = Value.ref a := rx
  refine getmeth_ok I1 ea c hm l ?_
  refine PySem.W.callWith_K (first := [.ref a]) (h₀ := X.base) I.ok.mod.kin hm.kp (thn (ha pos pins s1 σ H1 _ I1 q) fun us s2 ⟨vs, H2, I2, r, q2⟩ => ⟨I2.kIn, ?_⟩) hst hpl
  exact run_fn (us := .ref a :: us) (vs := .ref a :: vs) F hr hb hd hx I2 (.cons rfl r) q2
/-- o.m() -/
theorem pe_meth0 {pl : Sem Bool} (he : PE X o ta) (c : Cls X.K C) (hm : Meth X.K C m f) (F : FnOk X.prog X.w X.K X.mg X.base CX k f fd ps sp) (hr : Room k X.A) (hb : Binds X.K fd ps ds) (hd : Vals dvs ds) (hx : Passes CX X E)
    (ht : eval (.Call (.Attribute o m apos) [] [] pos) X.env = (do
      let ov ← eval o X.env
      standAt apos.atName
      let (f, first) ← holding [ov] (getMethod ov m pl)
      callWith pos f first (backTo pos (starEach [] X.env)) (backToKw pos (keywordEach [] X.env))) := by rfl) :
    PE X (.Call (.Attribute o m apos) [] [] pos) (tMeth C m sp dvs E ta tNil) := by
  intro pins s σ H Q I h
  refine PySem.W.methodCall_KW (pl := pl) (thn (he pins s σ H _ I h) fun u s1 ⟨x, H1, I1, rx, a, dx, fs, ex, ea, l, q⟩ => ?_) ht
  subst ex
  obtain rfl : u = Value.ref a := rx
  refine getmeth_ok I1 ea c hm l ?_
  exact PySem.W.callWith_K0 (first := [.ref a]) I1.kIn hm.kp (run_fn (us := [.ref a]) (vs := [.ref a]) F hr hb hd hx I1 (.cons rfl .nil) q)

/-- what a class must have to be made -/
structure Mk (K : PySem.W.Frag) (C f : Addr) : Prop where
  makes : PySem.W.makesIn K C = true
  init : PySem.W.findIn K (.ref C) "__init__" = some (some (.ref f))
  fn : PySem.W.isFn K (.ref f) = true
  kp : PySem.W.keepIn K (.ref C) = true

theorem run_make {pins : List (Addr × Obj)} {σ : St} {H : Hp} {s : Shared} {Q : VK} {us : List Value} {vs : List V} (M : Mk X.K C f) (F : FnOk X.prog X.w X.K X.mg X.base CX k f fd ps sp) (hr : Room (k + 1) X.A) (hb : Binds X.K fd ps ds) (hd : Vals dvs ds)
    (hx : Passes CX X E) (I : Inv X pins σ H s) (r : Vals vs us)
    (h : ∀ x dx, H x = none → H dx = none → dx ≠ x → sp (.ref x :: (vs ++ dvs)) (upd (upd H dx (.own x)) x (.ins C dx [])) (fun v H2 => v = .non ∧ Q (.ref x) H2) E) :
    wpAny (model X.prog X.w) X.A (call (.ref C) us) (EP X pins σ Q) X.xe s := by
  have hq := h (s.heap.objs.size + 1) s.heap.objs.size (I.hok.fresh (Nat.le_succ _)) (I.hok.fresh (Nat.le_refl _)) (Nat.ne_of_lt (Nat.lt_succ_self _))
  have I2 := Inv.made (C := C) I
  have r2 : Vals (V.ref (s.heap.objs.size + 1) :: (vs ++ dvs)) (Value.ref (s.heap.objs.size + 1) :: (us ++ ds)) := .cons rfl (r.append hd)
  have hl : (Value.ref (s.heap.objs.size + 1) :: us ++ ds).length = ps.length := by
    have e := r2.length
    rw [F.len _ _ _ _ hq] at e
    exact e.symm
  refine wpAny_call (make_map (f := f) I.kIn M.makes M.init (beq_iff_eq.mp M.fn) (codeAny_mono (F.run _ X.stack _ _ ⟨Value.ref (s.heap.objs.size + 1) :: us, []⟩ (Value.ref (s.heap.objs.size + 1) :: (us ++ ds)) _ _ E (hr.make C us [])
    (I2.env0.make C us []) (hb _ (Value.ref (s.heap.objs.size + 1) :: us) I2.kIn hl) r2 hq) fun r s' hq' => ?_))
  cases r with
  | error e => exact hx pins σ _ _ e s' I2 hq'
  | ok fl =>
    cases fl with
    | ret u =>
      obtain ⟨v, H', I3, rv, ev, q3⟩ := I2.after hq'
      subst ev
      exact ⟨rv, ⟨V.ref (s.heap.objs.size + 1), H', I3, rfl, q3⟩⟩
    | next => exact False.elim hq'
    | brk => exact False.elim hq'
    | cont => exact False.elim hq'
theorem pe_make (M : Mk X.K C f) (F : FnOk X.prog X.w X.K X.mg X.base CX k f fd ps sp) (hr : Room (k + 1) X.A) (hg : Gl X x) (hm : X.mg x = some (.ref C)) (hb : Binds X.K fd ps ds) (hd : Vals dvs ds) (hx : Passes CX X E)
    (ha : PA X (e :: es) t) (hdb : (x == ("__debug__" : Str)) = false := by decide) (he : starEach (e :: es) X.env = (false, eval e X.env) :: starEach es X.env := by rfl) (hpl : (backTo pos (starEach es X.env)).any (·.1) = false := by rfl) :
    PE X (.Call (.Name x p) (e :: es) [] pos) (tMake C sp dvs E t) := by
  intro pins s σ H Q I h
  refine wpAny_Call_Name_kw (ld_glob I hg hm ?_ hdb)
  refine PySem.W.callWith_K (h₀ := X.base) I.ok.mod.kin M.kp (thn (ha pos pins s σ H _ I h) fun us s1 ⟨vs, H1, I1, r, q⟩ => ⟨I1.kIn, ?_⟩) he hpl
  exact run_make M F hr hb hd hx I1 r q
theorem pe_make0 (M : Mk X.K C f) (F : FnOk X.prog X.w X.K X.mg X.base CX k f fd ps sp) (hr : Room (k + 1) X.A) (hg : Gl X x) (hm : X.mg x = some (.ref C)) (hb : Binds X.K fd ps ds) (hd : Vals dvs ds) (hx : Passes CX X E)
    (hdb : (x == ("__debug__" : Str)) = false := by decide) : PE X (.Call (.Name x p) [] [] pos) (tMake C sp dvs E tNil) := by
  intro pins s σ H Q I h
  refine wpAny_Call_Name_kw (ld_glob I hg hm ?_ hdb)
  exact PySem.W.callWith_K0 I.kIn M.kp (run_make (us := []) M F hr hb hd hx I .nil h)
end

/-! ### keywords -/
/-- the values of the keywords, from the left -/
def PK (X : Cx) (kws : List Keyword) (t : TA) : Prop :=
  ∀ (pos : Pos) (pins : List (Addr × Obj)) (s : Shared) (σ : St) (H : Hp) (Q : List V → Hp → Prop), Inv X pins σ H s → t σ H Q → wpAny (model X.prog X.w) X.A (evalAll ((backToKw pos (keywordEach kws X.env)).map (·.2))) (AP X pins σ Q) X.xe s
section
variable {X : Cx} {CX : CXT} {k : Nat} {f C : Addr} {fd : FuncData} {ps ks : List Str} {sp : Sp} {E : XK} {x m : Str} {p pos apos kpos : Pos} {e o : Expr} {es : List Expr} {kws : List Keyword} {te ta : TE} {t tk : TA} {nm : Option Str}
theorem pk_nil : PK X [] tNil := fun _ _ _ _ H Q I h => wpAny_evalAll_nil ⟨[], H, I, .nil, h⟩
theorem pk_cons (ha : PE X e te) (hr : PK X kws t) : PK X (⟨nm, e, kpos⟩ :: kws) (tCons te t) := by
  intro pos pins s σ H Q I h
  show wpAny _ _ (evalAll ((do let v ← eval e X.env; standAt pos; pure v) :: (backToKw pos (keywordEach kws X.env)).map (·.2))) _ _ s
  refine wpAny_evalAll_cons (wpAny_bind (thn (ha pins s σ H _ I h) fun u s1 ⟨x, H1, I1, r1, q1⟩ => wpAny_bind (wpAny_standAt (wpAny_pure ?_))))
  exact thn (hr pos pins s1 σ H1 _ I1 q1) fun us s2 ⟨xs, H2, I2, r2, q2⟩ => ⟨x :: xs, H2, I2, .cons r1 r2, q2⟩

/-- how a call with keywords binds: g puts the positional values us and the keywords' values ws (names ks) in the parameters' order, defaults among them -/
structure KBinds (K : PySem.W.Frag) (fd : FuncData) (ps ks : List Str) (g : List Value → List Value → List Value) (gV : List V → List V → List V) : Prop where
  to : ∀ (s : Shared) (us ws : List Value), K.In s.heap → (g us ws).length = ps.length → BindsTo s fd ⟨us, ks.zip ws⟩ (ps.zip (g us ws))
  rel : ∀ {vs : List V} {us : List Value} {zs : List V} {ws : List Value}, Vals vs us → Vals zs ws → Vals (gV vs zs) (g us ws)
def tCallK (sp : Sp) (gV : List V → List V → List V) (E : XK) (t tk : TA) : TE := fun σ H Q => t σ H fun vs H1 => tk σ H1 fun zs H2 => sp (gV vs zs) H2 Q E
variable {g : List Value → List Value → List Value} {gV : List V → List V → List V}
theorem run_fnk {pins : List (Addr × Obj)} {σ : St} {H : Hp} {s : Shared} {Q : VK} {us ws : List Value} {vs zs : List V} (F : FnOk X.prog X.w X.K X.mg X.base CX k f fd ps sp) (hr : Room k X.A) (hb : KBinds X.K fd ps ks g gV) (hx : Passes CX X E)
    (I : Inv X pins σ H s) (r : Vals vs us) (rz : Vals zs ws) (h : sp (gV vs zs) H Q E) : wpAny (model X.prog X.w) X.A (call (.ref f) us (ks.zip ws)) (EP X pins σ Q) X.xe s := by
  have r2 := hb.rel r rz
  have hl : (g us ws).length = ps.length := by rw [← r2.length]; exact F.len _ _ _ _ h
  refine wpAny_call (codeAny_mono (F.run X.A X.stack s H ⟨us, ks.zip ws⟩ (g us ws) (gV vs zs) Q E hr I.env0 (hb.to s us ws I.kIn hl) r2 h) fun r s' hq => ?_)
  cases r with
  | error e => exact hx pins σ H s e s' I hq
  | ok fl =>
    cases fl with
    | ret u => exact I.after hq
    | next => exact False.elim hq
    | brk => exact False.elim hq
    | cont => exact False.elim hq
/-- f(e, .., k = v, ..) -/
theorem pe_callK (F : FnOk X.prog X.w X.K X.mg X.base CX k f fd ps sp) (hr : Room k X.A) (hg : Gl X x) (hm : X.mg x = some (.ref f)) (hk : PySem.W.keepIn X.K (.ref f) = true) (hb : KBinds X.K fd ps ks g gV) (hx : Passes CX X E)
    (ha : PA X (e :: es) t) (hkw : PK X kws tk) (hall : (backToKw pos (keywordEach kws X.env)).all (·.1.isSome) = true := by rfl) (hks : (backToKw pos (keywordEach kws X.env)).filterMap (·.1) = ks := by rfl)
    (hdb : (x == ("__debug__" : Str)) = false := by decide) (he : starEach (e :: es) X.env = (false, eval e X.env) :: starEach es X.env := by rfl)
    (hpl : ((backTo pos (starEach (e :: es) X.env)).any (·.1) || (backToKw pos (keywordEach kws X.env)).any (·.1.isNone)) = false := by rfl) :
    PE X (.Call (.Name x p) (e :: es) kws pos) (tCallK sp gV E t tk) := by
  intro pins s σ H Q I h
  refine wpAny_Call_Name_kw (ld_glob I hg hm ?_ hdb)
  refine PySem.W.callWith_KW (h₀ := X.base) I.ok.mod.kin hk hall (thn (ha pos pins s σ H _ I h) fun us s1 ⟨vs, H1, I1, r, q⟩ => ?_) hpl he
  refine thn (hkw pos pins s1 σ H1 _ I1 q) fun ws s2 ⟨zs, H2, I2, rz, q2⟩ => ⟨I2.kIn, ?_⟩
  rw [hks]
  exact run_fnk F hr hb hx I2 r rz q2
end

/-! ### a def's body keeps its promise -/
/-- names: the parameters first -/
structure FnScope (N P : List Str) (sc : Scope) : Prop where
  kind : sc.kind = .function
  co : sc.isCoroutine = false
  gen : sc.isGenerator = false
  nd : N.Nodup
  pre : N.take P.length = P
  par : ∀ x ∈ P, sc.names.lookup x = some .local ∨ sc.names.lookup x = some .cell
  nofree : ∀ y ∈ sc.names, y.2 ≠ .free

theorem bindL_out {kindOf : Str → Option NameKind} {x : Str} : ∀ {binds : List (Str × Value)} {m : Str → Option Value}, (∀ v, (x, v) ∉ binds) → bindL kindOf binds m x = m x
  | [], _, _ => rfl
  | (n, v) :: r, m, h => by
    unfold bindL
    rw [bindL_out fun w hw => h w (List.mem_cons_of_mem _ hw)]
    split
    · have : x ≠ n := by rintro rfl; exact h v List.mem_cons_self
      simp [this]
    · rfl
theorem bindC_out {kindOf : Str → Option NameKind} {x : Str} : ∀ {binds : List (Str × Value)} {m : Str → Option Value}, (∀ v, (x, v) ∉ binds) → bindC kindOf binds m x = m x
  | [], _, _ => rfl
  | (n, v) :: r, m, h => by
    unfold bindC
    rw [bindC_out fun w hw => h w (List.mem_cons_of_mem _ hw)]
    split
    · rfl
    · have : x ≠ n := by rintro rfl; exact h v List.mem_cons_self
      simp [this]
theorem bindL_get {kindOf : Str → Option NameKind} {x : Str} {v : Value} : ∀ {P : List Str} {vs : List Value} {i : Nat} {m : Str → Option Value}, P.Nodup → P[i]? = some x → vs[i]? = some v → kindOf x = some .local →
    bindL kindOf (P.zip vs) m x = some v
  | [], _, _, _, _, h, _, _ => by simp at h
  | _ :: _, [], _, _, _, _, h, _ => by simp at h
  | p :: P, w :: vs, 0, m, nd, h1, h2, hk => by
    simp at h1 h2; subst h1; subst h2
    show bindL kindOf ((p, w) :: P.zip vs) m p = _
    unfold bindL
    rw [bindL_out fun v hv => (List.nodup_cons.mp nd).1 (List.of_mem_zip hv).1, if_pos hk]
    simp
  | p :: P, w :: vs, i + 1, m, nd, h1, h2, hk => by
    show bindL kindOf ((p, w) :: P.zip vs) m x = _
    unfold bindL
    exact bindL_get (i := i) (List.nodup_cons.mp nd).2 (by simpa using h1) (by simpa using h2) hk
theorem bindC_get {kindOf : Str → Option NameKind} {x : Str} {v : Value} : ∀ {P : List Str} {vs : List Value} {i : Nat} {m : Str → Option Value}, P.Nodup → P[i]? = some x → vs[i]? = some v → kindOf x ≠ some .local →
    bindC kindOf (P.zip vs) m x = some v
  | [], _, _, _, _, h, _, _ => by simp at h
  | _ :: _, [], _, _, _, _, h, _ => by simp at h
  | p :: P, w :: vs, 0, m, nd, h1, h2, hk => by
    simp at h1 h2; subst h1; subst h2
    show bindC kindOf ((p, w) :: P.zip vs) m p = _
    unfold bindC
    rw [bindC_out fun v hv => (List.nodup_cons.mp nd).1 (List.of_mem_zip hv).1, if_neg hk]
    simp
  | p :: P, w :: vs, i + 1, m, nd, h1, h2, hk => by
    show bindC kindOf ((p, w) :: P.zip vs) m x = _
    unfold bindC
    exact bindC_get (i := i) (List.nodup_cons.mp nd).2 (by simpa using h1) (by simpa using h2) hk

/-- the names' values at the entry -/
def start (N : List Str) (vs : List V) : St := vs.map some ++ List.replicate (N.length - vs.length) none

/-- the context of a def's body, at its entry; an exception leaves the frame, then lies as CX says -/
def cxOf (CX : CXT) (P : Program) (w : World) (K : PySem.W.Frag) (mg : Str → Option Value) (base : Heap) (N : List Str) (qual : Str) (scope : Scope) (f : Addr) (cd : Value) (A : Around) (outer : List Env) (s : Shared) (H : Hp) (E : XK) : Cx where
  prog := P
  w := w
  K := K
  mg := mg
  base := base
  A := A.deeper (envOfC qual scope s.heap.objs.size f cd)
  N := N
  s₀ := s
  H₀ := H
  env := envOfC qual scope s.heap.objs.size f cd
  outer := outer
  stack := envOfC qual scope s.heap.objs.size f cd :: outer
  ex := []
  calm := true
  fn := fun _ => true
  pn := []
  xe := fun e s' => wpAny (model P w) (A.deeper (envOfC qual scope s.heap.objs.size f cd)) (leaving (envOfC qual scope s.heap.objs.size f cd) e) (fun _ s'' => CX outer H s E e s'') (fun e' s'' => CX outer H s E e' s'') s'

theorem cell_has {sc : Scope} {n : Nat} {x : Str} (h : sc.names.lookup x = some .cell) : ∃ c, (cellsFrom n sc.names []).lookup x = some c := by
  have q := PySem.W.cellsFrom_some sc.names n [] (.inl h)
  exact Option.isSome_iff_exists.mp q

theorem inv_start {CX : CXT} {P : Program} {w : World} {K : PySem.W.Frag} {mg : Str → Option Value} {base : Heap} {N ps : List Str} {qual : Str} {scope : Scope} {f : Addr} {cd : Value} {A : Around} {outer : List Env} {s s1 : Shared} {H : Hp} {E : XK} {us : List Value} {vs : List V}
    (S : FnScope N ps scope) (hd : A.handled = none) (e0 : Env0 P w K mg base A outer s H) (hl : vs.length = ps.length) (r : Vals vs us)
    (x : InCallC s s.heap.objs.size (bindL (envOfC qual scope s.heap.objs.size f cd).kindOf (ps.zip us) fun _ => none) (cellsFrom (s.heap.objs.size + 1) scope.names []) (bindC (envOfC qual scope s.heap.objs.size f cd).kindOf (ps.zip us) fun _ => none) s1) (htk : s.toks ≤ s1.toks) :
    Inv (cxOf CX P w K mg base N qual scope f cd A outer s H E) [] (start N vs) H s1 := by
  have hpl : ps.length ≤ N.length := by have := congrArg List.length S.pre; rw [List.length_take] at this; omega
  obtain ⟨h1, tk, rfl, hk⟩ := x.done
  have noA : ∀ b : Addr, b ∉ (cxOf CX P w K mg base N qual scope f cd A outer s H E).ex := fun b z => absurd (show b ∈ ([] : List Addr) from z) (by simp)
  refine ⟨⟨e0.mod, S.kind, rfl, rfl, Nat.le_refl _, fun y z c h1 h2 => ?_, fun y hy => ?_, fun y c _ h => ?_, fun _ => hd, Around.frames_deeper e0.frames, .inr ⟨rfl, rfl⟩, fun b z => absurd z (noA b), e0.bs, e0.bsz, fun b _ _ => noA b, fun b z => absurd z (noA b), e0.funs, e0.frf⟩,
    rfl, ⟨e0.bare.1, Nat.le_trans e0.bare.2 htk⟩, Un.kept hk, ⟨_, x.toInCall.ns, fun i y v h1 h2 h3 => ?_⟩, fun y c h => ⟨_, x.cell y c h⟩, e0.hok.fresh (Nat.le_refl _), fun y c h => ?_, fun p hp => absurd (show p ∈ ([] : List (Addr × Obj)) from hp) (by simp), e0.hok.kept hk, ?_⟩
  · exact name_of_addr x.apart (PySem.mem_of_lookup h1) (PySem.mem_of_lookup h2)
  · have hy : scope.names.lookup y = some .cell ∨ scope.names.lookup y = some .free := hy
    rcases hy with hy | hy
    · exact cell_has hy
    · exact absurd rfl (S.nofree _ (PySem.mem_of_lookup hy))
  · exact Nat.le_of_lt (x.above y c (PySem.mem_of_lookup h))
  · have hi : i < vs.length := by
      unfold start at h2
      by_cases hi : i < vs.length
      · exact hi
      · rw [List.getElem?_append_right (by simpa using hi)] at h2
        rw [List.getElem?_replicate] at h2
        split at h2 <;> cases h2
    have ha : vs[i]? = some v := by
      unfold start at h2
      rw [List.getElem?_append_left (by simpa using hi), List.getElem?_map] at h2
      cases e : vs[i]? with
      | none => rw [e] at h2; cases h2
      | some a => rw [e] at h2; cases h2; rfl
    obtain ⟨u, hu, rv⟩ := r.get ha
    have hp : ps[i]? = some y := by
      rw [← S.pre, List.getElem?_take_of_lt (by omega)]; exact h1
    have ndP : ps.Nodup := by rw [← S.pre]; exact S.nd.sublist (List.take_sublist _ _)
    refine ⟨u, rv, ?_⟩
    rcases S.par y (List.mem_of_getElem? hp) with k | k
    · exact .inl ⟨k, bindL_get ndP hp hu k⟩
    · obtain ⟨c, e⟩ := cell_has (n := s.heap.objs.size + 1) k
      refine .inr ⟨.inl k, c, e, ?_⟩
      have q := x.cell y c e
      rw [bindC_get ndP hp hu (by show scope.names.lookup y ≠ _; rw [k]; decide)] at q
      exact q
  · exact e0.hok.fresh (Nat.le_of_lt (x.above y c (PySem.mem_of_lookup h)))
  · unfold start
    show _ = N.length
    rw [List.length_append, List.length_map, List.length_replicate]
    omega

/-- THE RULE: a def (or a method) of the text, by its body. The body's reading t is chosen for each entry; it is run at the parameters' values -/
theorem fn_of {CX : CXT} {P : Program} {w : World} {K : PySem.W.Frag} {mg : Str → Option Value} {base : Heap} {k : Nat} {f : Addr} {name qual : Str} {params : Arguments} {body : List Stmt} {scope : Scope} {dV kV doc pm cdv ct oc : Value} {an od : Option Addr}
    {osl : Array (Option Value)} {N ps : List Str} {sp : Sp} (lk : K.lookup f = some ⟨oc, od, .func (PySem.W.fnOf name qual params body scope dV kV doc pm an cdv ct), osl⟩) (hcd : PySem.W.codeIn K cdv qual = true) (S : FnScope N ps scope)
    (len : ∀ vs H Q E, sp vs H Q E → vs.length = ps.length)
    (hbody : ∀ (A : Around) (outer : List Env) (s : Shared) (H : Hp) (vs : List V) (Q : VK) (E : XK), Room k (A.deeper (envOfC qual scope s.heap.objs.size f cdv)) → sp vs H Q E →
      ∃ t, PSs (cxOf CX P w K mg base N qual scope f cdv A outer s H E) body t ∧ t { nx := fun _ H' => Q .non H', rt := Q } (start N vs) H) :
    FnOk P w K mg base CX (k + 1) f (PySem.W.fnOf name qual params body scope dV kV doc pm an cdv ct) ps sp := by
  refine ⟨len, fun A outer s H args us vs Q E hr e0 hb r hsp => ?_⟩
  have hl := len _ _ _ _ hsp
  have KX : K.In s.heap := e0.mod.kin.keeps fun b o e => (e0.bs b o e).1
  have lim : s.heap.NoLimit := e0.mod.nolimit.keeps fun b o e => (e0.bs b o e).1
  have hkind : ∀ y ∈ ps.zip us, scope.names.lookup y.1 = some .local ∨ (scope.names.lookup y.1 = some .cell ∧ ((cellsFrom (s.heap.objs.size + 1) scope.names []).lookup y.1).isSome = true) := fun ⟨n, v⟩ hy => by
    rcases S.par n (List.of_mem_zip hy).1 with q | q
    · exact .inl q
    · exact .inr ⟨q, PySem.W.cellsFrom_some _ _ _ (.inl q)⟩
  refine codeAny_call_function hr.depth (KX _ _ lk) rfl S.co S.gen rfl (PySem.W.codeRec_of KX hcd) (hb _ _ _ _ ?_)
  refine wpAny_with_toks (Nat.le_refl _) (wpAny_newFunctionEnv_cells S.kind hkind fun env he s1 x htk => ?_)
  subst he
  refine ⟨lim.keeps x.toInCall.keep, codeAny_func ?_⟩
  obtain ⟨t, ht, hq⟩ := hbody A outer s H vs Q E (hr.deeper _) hsp
  have I : Inv (cxOf CX P w K mg base N qual scope f cdv A outer s H E) [] (start N vs) H s1 := inv_start S hr.hd e0 hl r x htk
  refine wpAny_mono (ht [] s1 (start N vs) H _ I hq) (fun fl s' hs => ?_) fun e s' hs => hs
  have fin : ∀ {σ' : St} {H' : Hp} {v : V} {u : Value}, Inv (cxOf CX P w K mg base N qual scope f cdv A outer s H E) [] σ' H' s' → RelV v u → Q v H' → CE outer P w H s Q u s' :=
    fun {σ' H' v u} J rv q => ⟨v, H', J.os, J.bare, J.base, J.hok, rv, q⟩
  cases fl with
  | ret u =>
    obtain ⟨v, σ', H', J, rv, q⟩ := hs
    exact fin J rv q
  | next =>
    obtain ⟨σ', H', J, q⟩ := hs
    exact fin (v := V.non) (u := Value.none) J rfl q
  | brk =>
    obtain ⟨_, _, _, q⟩ := hs
    exact False.elim q
  | cont =>
    obtain ⟨_, _, _, q⟩ := hs
    exact False.elim q
end L2

namespace L2
open PySem PySem.Spec PyProof.Rows
section
variable {X : Cx} {x : Str} {p pos : Pos} {e : Expr} {es : List Expr} {t : TA} {id T : String} {r : List V → Hp → VK → Prop}

def tCB (r : List V → Hp → VK → Prop) (t : TA) : TE := fun σ H Q => t σ H fun vs H1 => r vs H1 Q
/-- f(e, ..), f a built-in function -/
theorem pe_callB (hc : CallR X (.builtin id) r) (hg : Gl X x) (hm : X.mg x = none) (hv : bootBuiltins x = some (.builtin id)) (ha : PA X (e :: es) t) (hn : x ≠ "__name__" := by decide) (hdb : (x == ("__debug__" : Str)) = false := by decide)
    (he : starEach (e :: es) X.env = (false, eval e X.env) :: starEach es X.env := by rfl) (hpl : (backTo pos (starEach es X.env)).any (·.1) = false := by rfl) : PE X (.Call (.Name x p) (e :: es) [] pos) (tCB r t) := by
  intro pins s σ H Q I h
  refine wpAny_Call_Name_kw (ld_blt I hg hm hv ?_ hn hdb)
  exact PyProof.Rows.callWith_builtin1 (thn (ha pos pins s σ H _ I h) fun us s1 ⟨vs, H1, I1, r1, q1⟩ => hc pins s1 σ H1 vs us Q I1 r1 q1) he hpl
/-- T(e, ..), T a built-in type -/
theorem pe_callTy (hc : CallR X (.type T) r) (hg : Gl X x) (hm : X.mg x = none) (hv : bootBuiltins x = some (.type T)) (ha : PA X (e :: es) t) (hn : x ≠ "__name__" := by decide) (hdb : (x == ("__debug__" : Str)) = false := by decide)
    (he : starEach (e :: es) X.env = (false, eval e X.env) :: starEach es X.env := by rfl) (hpl : (backTo pos (starEach es X.env)).any (·.1) = false := by rfl) : PE X (.Call (.Name x p) (e :: es) [] pos) (tCB r t) := by
  intro pins s σ H Q I h
  refine wpAny_Call_Name_kw (ld_blt I hg hm hv ?_ hn hdb)
  exact PyProof.Rows.callWith_type1 (thn (ha pos pins s σ H _ I h) fun us s1 ⟨vs, H1, I1, r1, q1⟩ => hc pins s1 σ H1 vs us Q I1 r1 q1) he hpl
/-- T() -/
theorem pe_callTy0 (hc : CallR X (.type T) r) (hg : Gl X x) (hm : X.mg x = none) (hv : bootBuiltins x = some (.type T)) (hn : x ≠ "__name__" := by decide) (hdb : (x == ("__debug__" : Str)) = false := by decide) :
    PE X (.Call (.Name x p) [] [] pos) (tCB r tNil) := by
  intro pins s σ H Q I h
  refine wpAny_Call_Name_kw (ld_blt I hg hm hv ?_ hn hdb)
  exact PyProof.Rows.callWith_type0 (hc pins s σ H [] [] Q I .nil h)
end
end L2

namespace HT
open PySem PyProof.Rows

/-- t < u of tuples of ints -/
def lexLt : List Int → List Int → Bool
  | [], [] => false
  | [], _ :: _ => true
  | _ :: _, [] => false
  | x :: xs, y :: ys => if x = y then lexLt xs ys else decide (x < y)
theorem lexLt_cons (x y : Int) (xs ys : List Int) : lexLt (x :: xs) (y :: ys) = if x = y then lexLt xs ys else decide (x < y) := rfl
theorem lexLt_nil_nil : lexLt [] [] = false := rfl
theorem lexLt_nil_cons (y : Int) (ys : List Int) : lexLt [] (y :: ys) = true := rfl
theorem lexLt_cons_nil (x : Int) (xs : List Int) : lexLt (x :: xs) [] = false := rfl

theorem eqAt_int (A : Around) (s : Shared) (a : Int) (t : Tok) (c : Int) (u : Tok) : ∃ e, SeqAt.EqAt A s (.int a t) (.int c u) e ∧ (e = true ↔ a = c) :=
  ⟨(a == c), SeqAt.EqAt.int_int a t c u, by simp⟩
theorem rcLt_int (A : Around) (s : Shared) (a : Int) (t : Tok) (c : Int) (u : Tok) (prog : Program) (w : World) (E : Value → Shared → Prop) (Q : Value → Shared → Prop) (h : Q (.bool (decide (a < c))) s) :
    wpAny (model prog w) A (richCompare .Lt (.int a t) (.int c u)) Q E s :=
  (PyProof.Rows.lt_int h : wpAny (model prog w) A (compareOp .Lt (.int a t) (.int c u)) Q E s)

section
open PySem.SeqAt
open PySem.AutoSeq1 (wpAny_loadPart')
open PySem.MeetsSeq PySem.MeetsSeq2 PySem.MeetsSeq3

theorem tuple_lt_ints (l b : Addr) (items items2 : Array Value) (n n2 : Nat) (dd dd2 : Option Addr) (sl sl2 : Array (Option Value)) (ns ms : List Int) (hi : IntsAre items.toList ns) (hj : IntsAre items2.toList ms) :
    Meets (Builtin.«tuple.__lt__» ⟨[.ref l, .ref b], []⟩)
      (fun _ R s => s.heap.get? l = some { cls := .type "tuple", dict := dd, data := .seq items n, slots := sl } ∧ s.heap.get? b = some { cls := .type "tuple", dict := dd2, data := .seq items2 n2, slots := sl2 } ∧
        R (.ok (.ret (.bool (lexLt ns ms)))) s) :=
  .of_wp fun prog w A R s h => by
    obtain ⟨hp, g, d, tk, os⟩ := s; obtain ⟨hl, hb, h⟩ := h
    have f2 := AutoSeq1.sub_tuple_tuple
    have z1 : items.size = ns.length := by rw [← hi.length]; simp
    have z2 : items2.size = ms.length := by rw [← hj.length]; simp
    wp_walk using wpAny_loadPart' hl, wpAny_loadPart' hb, wpAny_forIn_list _ (fun rest b s' => b.1 = none ∧ s' = ⟨hp, g, d, tk, os⟩ ∧ ∃ (vs ws : List Value) (ns' ms' : List Int), rest = vs.zip ws ∧
      IntsAre vs ns' ∧ IntsAre ws ms' ∧ ns'.length + items2.size = ms'.length + items.size ∧ R (.ok (.ret (.bool (lexLt ns' ms')))) ⟨hp, g, d, tk, os⟩) _
    case turn =>
      rintro ⟨y, x⟩ rest b s' ⟨hb', rfl, vs, ws, ns', ms', hz, hvi, hwi, hlen, hR⟩
      cases hvi with
      | nil => rw [List.zip_nil_left] at hz; cases hz
      | cons a t hvi' =>
        cases hwi with
        | nil => rw [List.zip_nil_right] at hz; cases hz
        | cons c u hwi' =>
          rw [List.zip_cons_cons] at hz
          injection hz with hyx hrest
          injection hyx with hy hx
          subst hy hx
          rw [lexLt_cons] at hR
          simp only [List.length_cons] at hlen
          obtain ⟨e, he, hiff⟩ := eqAt_int A.in1 ⟨hp, g, d, tk, os⟩ a t c u
          refine wpAny_bind (he prog w _ _ ?_)
          cases e with
          | true =>
            rw [if_pos (hiff.mp rfl)] at hR
            wp_walk
            exact ⟨rfl, rfl, _, _, _, _, hrest, hvi', hwi', by omega, hR⟩
          | false =>
            rw [if_neg (fun q => absurd (hiff.mpr q) Bool.false_ne_true)] at hR
            have hri := rcLt_int A.in1 ⟨hp, g, d, tk, os⟩ a t c u prog w
            wp_walk using hri
            exact ⟨_, rfl, by simpa using hR⟩
    case fin =>
      rintro ⟨b1, b2⟩ s' ⟨hb', rfl, vs, ws, ns', ms', hz, hvi, hwi, hlen, hR⟩
      simp only at hb'
      subst hb'
      have hv : lexLt ns' ms' = decide (items.size < items2.size) := by
        cases hvi with
        | nil =>
          cases hwi with
          | nil =>
            simp only [List.length_nil] at hlen
            rw [lexLt_nil_nil]
            exact (decide_eq_false (by omega)).symm
          | cons c u hw =>
            simp only [List.length_nil, List.length_cons] at hlen
            rw [lexLt_nil_cons]
            exact (decide_eq_true (by omega)).symm
        | cons a t hv =>
          cases hwi with
          | nil =>
            simp only [List.length_nil, List.length_cons] at hlen
            rw [lexLt_cons_nil]
            exact (decide_eq_false (by omega)).symm
          | cons c u hw =>
            rw [List.zip_cons_cons] at hz
            cases hz
      rw [hv] at hR
      wp_walk
      exact ⟨_, rfl, by simpa [Builtin.Tuple.tupleCompareSizes] using hR⟩
    case h =>
      exact ⟨rfl, rfl, items.toList, items2.toList, ns, ms, rfl, hi, hj, by omega, h⟩
end

section
variable {prog : Program} {w : World} {A : Around} {E : Value → Shared → Prop} {s : Shared}

theorem lt_tupInts {l b : Addr} {items items2 : Array Value} {ns ms : List Int} {Q : Value → Shared → Prop} (hl : IsTup s.heap l items) (hb : IsTup s.heap b items2) (hi : IntsAre items.toList ns) (hj : IntsAre items2.toList ms)
    (hu : A.units < cLine) (h : Q (.bool (lexLt ns ms)) s) : wpAny (model prog w) A (compareOp .Lt (.ref l) (.ref b)) Q E s := by
  obtain ⟨⟨cls, dd, data, sl⟩, ho, hc, n, hd⟩ := id hl
  obtain ⟨⟨cls2, dd2, data2, sl2⟩, ho2, hc2, n2, hd2⟩ := id hb
  simp only at hc hd hc2 hd2
  subst hc hd hc2 hd2
  exact richCompare_meets_room (op := .Lt) ⟨_, ho, rfl⟩ ⟨_, ho2, rfl⟩ PySem.F.slot_tuple_lt PySem.F.entry_tuple_lt (PySem.F.args_tuple_lt_2 _ _) (tuple_lt_ints l b items items2 n n2 dd dd2 sl sl2 ns ms hi hj)
    ⟨ho, ho2, show Value.bool (lexLt ns ms) ≠ Value.notImplemented ∧ Q (.bool (lexLt ns ms)) s from ⟨(fun x => nomatch x), h⟩⟩ hu

/-- t + u, t not empty -/
theorem cat_tup {t b : Addr} {vs ws : List Value} {Q : Value → Shared → Prop} (ht : IsTup s.heap t vs.toArray) (hb : IsTup s.heap b ws.toArray) (hv : vs ≠ [])
    (h1 : ws = [] → Q (.ref t) s) (h2 : ws ≠ [] → Q (.ref s.heap.objs.size) { s with heap := s.heap.push { cls := .type "tuple", data := .seq (vs ++ ws).toArray } })
    (hsz : vs.length + ws.length ≤ sizeLine) : wpAny (model prog w) A (binaryOp .Add (.ref t) (.ref b)) Q E s := by
  obtain ⟨⟨cls, dd, data, sl⟩, ho, hc, n, hd⟩ := id ht
  obtain ⟨⟨cls2, dd2, data2, sl2⟩, ho2, hc2, n2, hd2⟩ := id hb
  simp only at hc hd hc2 hd2
  subst hc hd hc2 hd2
  have e : vs.toArray ++ ws.toArray = (vs ++ ws).toArray := by simp
  by_cases hw : ws = []
  · exact concat_meets ⟨_, ho, rfl⟩ ⟨_, ho2, rfl⟩ noFill_tuple_add seq_tuple_add PySem.F.slot_tuple_add PySem.F.entry_tuple_add (PySem.F.args_tuple_add_2 _ _)
      (tuple_addW1 t b vs.toArray ws.toArray n n2 dd dd2 sl sl2 (by simpa using hv) (by simp [hw])) ⟨ho, ho2, h1 hw⟩
  · refine concat_meets ⟨_, ho, rfl⟩ ⟨_, ho2, rfl⟩ noFill_tuple_add seq_tuple_add PySem.F.slot_tuple_add PySem.F.entry_tuple_add (PySem.F.args_tuple_add_2 _ _)
      (tuple_addW2 t b vs.toArray ws.toArray n n2 dd dd2 sl sl2 (by simpa using hv) (by simpa using hw) (by rw [List.size_toArray, List.size_toArray]; exact hsz)) ⟨ho, ho2, ?_⟩
    rw [e]
    exact h2 hw

/-! ### t[a:b], not the whole -/
/-- a slice's bound as a place among n (d where it is left out) -/
def sIx (n d : Nat) : Option Int → Nat
  | none => d
  | some v => if v < 0 then (v + (n : Int)).toNat else min v.toNat n
theorem sIx_none (n d : Nat) : sIx n d none = d := rfl
theorem sIx_nat (n d k : Nat) : sIx n d (some (k : Int)) = min k n := by
  show (if (k : Int) < 0 then ((k : Int) + (n : Int)).toNat else min (k : Int).toNat n) = min k n
  rw [if_neg (by omega), Int.toNat_natCast]
theorem sIx_le (n d : Nat) (hd : d ≤ n) (o : Option Int) : sIx n d o ≤ n := by
  cases o with
  | none => exact hd
  | some v =>
    show (if v < 0 then (v + (n : Int)).toNat else min v.toNat n) ≤ n
    by_cases hv : v < 0
    · rw [if_pos hv]; omega
    · rw [if_neg hv]; exact Nat.min_le_right _ _
theorem clip_eq (v : Int) (n d : Nat) : (if v < 0 then max (v + (n : Int)) 0 else min v (n : Int)) = ((sIx n d (some v) : Nat) : Int) := by
  show (if v < 0 then max (v + (n : Int)) 0 else min v (n : Int)) = (((if v < 0 then (v + (n : Int)).toNat else min v.toNat n) : Nat) : Int)
  by_cases hv : v < 0
  · simp only [if_pos hv]; omega
  · simp only [if_neg hv]; omega
theorem adjust_gen (lo hi : Option Int) (n : Nat) : Builtin.Slice.sliceAdjust lo hi 1 (n : Int) = (((sIx n 0 lo : Nat) : Int), ((sIx n n hi : Nat) : Int)) := by
  have h1 : ¬ ((1 : Int) < 0) := by omega
  unfold Builtin.Slice.sliceAdjust
  simp only [h1, if_false]
  refine Prod.ext ?_ ?_
  · cases lo with
    | none => rfl
    | some v => exact clip_eq v n 0
  · cases hi with
    | none => rfl
    | some v => exact clip_eq v n n
theorem places_gen (i j : Nat) : Builtin.Slice.slicePlaces (i : Int) (j : Int) 1 = j - i := by
  unfold Builtin.Slice.slicePlaces
  have h1 : (1 : Int) > 0 := by omega
  simp only [h1, if_true, Int.ediv_one]
  split <;> omega
theorem slicePart_ {v : Value} {o : Option Int} {Q : Option Int → Shared → Prop} (p : IsPart v o) (h : Q o s) : wpAny (model prog w) A (Builtin.Slice.slicePartIndex v) Q E s := by
  cases p with
  | none => exact slicePart_none h
  | int i t => exact slicePart_int h
theorem sliceApplied_gen {sl : Addr} {vl vu : Value} {lo hi : Option Int} {n : Nat} {Q : Int × Int × Nat → Shared → Prop} (hs : s.heap.IsSliceOf sl vl vu .none) (pl : IsPart vl lo) (pu : IsPart vu hi)
    (h : Q (((sIx n 0 lo : Nat) : Int), 1, sIx n n hi - sIx n 0 lo) s) : wpAny (model prog w) A (Builtin.Slice.sliceApplied (.ref sl) (pure (n : Int))) Q E s := by
  obtain ⟨os, hos, hcs, hds⟩ := id hs
  unfold Builtin.Slice.sliceApplied Builtin.Slice.sliceFields
  refine wpAny_bind (wpAny_bind (wpAny_field hos hds (x := vl) rfl (wpAny_bind (wpAny_field hos hds (x := vu) rfl (wpAny_bind (wpAny_field hos hds (x := .none) rfl (wpAny_pure ?_)))))))
  refine wpAny_bind (slicePart_none ?_)
  show wpAny _ _ (if ((1 : Int) == 0) = true then _ else _) _ _ s
  rw [if_neg (by decide)]
  refine wpAny_bind (slicePart_ pl (wpAny_bind (slicePart_ pu (wpAny_bind (wpAny_pure ?_)))))
  show wpAny _ _ (match Builtin.Slice.sliceAdjust lo hi 1 (n : Int) with | (lo, hi) => pure (lo, (1 : Int), Builtin.Slice.slicePlaces lo hi 1)) _ _ s
  rw [adjust_gen lo hi n]
  show wpAny _ _ (pure (((sIx n 0 lo : Nat) : Int), (1 : Int), Builtin.Slice.slicePlaces ((sIx n 0 lo : Nat) : Int) ((sIx n n hi : Nat) : Int) 1)) _ _ s
  rw [places_gen]
  exact wpAny_pure h
theorem pick_gen (xs : Array Value) (i k : Nat) : ((List.range k).filterMap fun (m : Nat) => xs[((i : Int) + (m : Int) * 1).toNat]?).toArray = ((xs.toList.drop i).take k).toArray := by
  have e : (fun (m : Nat) => xs[((i : Int) + (m : Int) * 1).toNat]?) = fun m => xs[i + m]? := by
    funext m
    have : ((i : Int) + (m : Int) * 1).toNat = i + m := by omega
    rw [this]
  rw [e]
  have := pick_run xs i k
  rw [List.filterMap_map] at this
  have e2 : ((fun x => xs[x]?) ∘ fun x => i + x) = fun m => xs[i + m]? := rfl
  rw [e2] at this
  rw [this]

theorem getItem_tuple_cut {t sl : Addr} {items : Array Value} {vl vu : Value} {lo hi : Option Int} {Q : Value → Shared → Prop} (ht : IsTup s.heap t items) (hs : s.heap.IsSliceOf sl vl vu .none) (pl : IsPart vl lo) (pu : IsPart vu hi)
    (hw : ¬ (sIx items.size 0 lo = 0 ∧ sIx items.size items.size hi = items.size))
    (h : Q (.ref s.heap.objs.size) { s with heap := s.heap.push { cls := .type "tuple", data := .seq ((items.toList.drop (sIx items.size 0 lo)).take (sIx items.size items.size hi - sIx items.size 0 lo)).toArray } })
    (hsz : items.size ≤ sizeLine) : wpAny (model prog w) A (getItem (.ref t) (.ref sl)) Q E s := by
  have htake : sizeOk (.seq ((items.toList.drop (sIx items.size 0 lo)).take (sIx items.size items.size hi - sIx items.size 0 lo)).toArray) := by
    show ((items.toList.drop (sIx items.size 0 lo)).take (sIx items.size items.size hi - sIx items.size 0 lo)).toArray.size ≤ sizeLine
    rw [List.size_toArray, List.length_take, List.length_drop, Array.length_toList]
    omega
  have hj : sIx items.size items.size hi ≤ items.size := sIx_le _ _ (Nat.le_refl _) hi
  obtain ⟨os, hos, hcs, hds⟩ := id hs
  have hTs : s.TypeIs (.ref sl) "slice" := ⟨os, hos, hcs⟩
  unfold getItem
  try with_reducible refine wpAny_holding ?_
  first | refine wpAny_bind (wpAny_pure ?_) | skip
  refine wpAny_bind (wpAny_sequenceKey ht.typeIs (by decide) ?_)
  refine wpAny_bind (wpAny_callSpecial?_slot (name := Str.ofString "__getitem__") ht.typeIs PyProof.Rows.slot_tuple_getitem
    (wpAny_call_entry PyProof.Rows.slot_tuple_getitem ht.typeIs entry_tuple_getitem ?_ (args_tuple_getitem _ _)))
  show wpAny _ _ (Builtin.Tuple.tupleItemsOf (.ref t) >>= _) _ _ s
  refine wpAny_bind (tupleItemsOf_ ht ?_)
  refine wpAny_bind (wpAny_typeOf hTs ?_)
  rw [if_pos (by decide)]
  refine wpAny_bind (sliceApplied_gen hs pl pu ?_)
  have hno : ¬ ((((sIx items.size 0 lo : Nat) : Int) == 0 && (1 : Int) == 1 && (sIx items.size items.size hi - sIx items.size 0 lo) == items.size) = true) := by
    intro q
    rw [Bool.and_eq_true, Bool.and_eq_true] at q
    have q1 : ((sIx items.size 0 lo : Nat) : Int) = 0 := eq_of_beq q.1.1
    have q2 : sIx items.size items.size hi - sIx items.size 0 lo = items.size := eq_of_beq q.2
    exact hw ⟨by omega, by omega⟩
  show wpAny _ _ (if (((sIx items.size 0 lo : Nat) : Int) == 0 && (1 : Int) == 1 && (sIx items.size items.size hi - sIx items.size 0 lo) == items.size) = true then _ else _) _ _ s
  rw [if_neg hno, pick_gen]
  first
    | exact wpAny_bind (m := Builtin.Tuple.tupleExact _) (wpAny_newObj_type (wpAny_pure ⟨_, rfl, wpAny_pure h⟩) htake)
    | exact wpAny_bind (m := Builtin.Tuple.tupleExact _) (wpAny_newObj_type (wpAny_bind (wpAny_pure (wpAny_pure ⟨_, rfl, wpAny_pure h⟩))) htake)
    | exact wpAny_bind (wpAny_bind (m := Builtin.Tuple.tupleExact _) (wpAny_newObj_type (wpAny_pure (wpAny_pure ⟨_, rfl, wpAny_pure h⟩)) htake))
    | exact wpAny_bind (wpAny_bind (m := Builtin.Tuple.tupleExact _) (wpAny_newObj_type (wpAny_pure ⟨_, rfl, wpAny_pure h⟩) htake))
end
end HT

namespace L2
open PySem PySem.Spec PyProof.Rows

/-! ### the parts of a slice -/
abbrev TO := St → Hp → (Option Int → Hp → Prop) → Prop
/-- a slice's part (left out, or an int) -/
def PO (X : Cx) (e : Option Expr) (t : TO) : Prop :=
  ∀ (pins : List (Addr × Obj)) (s : Shared) (σ : St) (H : Hp) (Q : Option Int → Hp → Prop), Inv X pins σ H s → t σ H Q →
    wpAny (model X.prog X.w) X.A (evalPart e X.env) (fun u s' => ∃ o H', Inv X pins σ H' s' ∧ IsPart u o ∧ Q o H') X.xe s
def tNoPart : TO := fun _ H Q => Q none H
def tPart (t : TE) : TO := fun σ H Q => t σ H fun x H1 => ∃ i, x = .int i ∧ Q (some i) H1

theorem intsAre_of {ns : List Int} : ∀ {us : List Value}, Vals (ns.map V.int) us → IntsAre us ns := by
  induction ns with
  | nil => intro us r; rw [List.map_nil] at r; cases r; exact .nil
  | cons n ns ih =>
    intro us r
    rw [List.map_cons] at r
    cases r with
    | cons r1 r2 =>
      obtain ⟨t, e⟩ := r1
      subst e
      exact .cons n t (ih r2)

section
variable {X : Cx} {e : Expr} {te : TE} {lo hi : Option Expr} {tl th : TO} {pos p2 : Pos}

theorem po_none : PO X none tNoPart := by
  intro pins s σ H Q I h
  rw [evalPart_none]
  exact wpAny_pure ⟨none, H, I, .none, h⟩
theorem po_some (h : PE X e te) : PO X (some e) (tPart te) := by
  intro pins s σ H Q I hw
  rw [evalPart_some]
  refine thn (h pins s σ H _ I hw) fun u s1 ⟨x, H1, I1, r1, q1⟩ => ?_
  obtain ⟨i, rfl, q⟩ := q1
  obtain ⟨t, rfl⟩ := r1
  exact ⟨some i, H1, I1, .int i t, q⟩

/-- what a slice of a value is, by values: the slice object stands at sl -/
def SlR (X : Cx) (r : V → Option Int → Option Int → Hp → VK → Prop) : Prop :=
  ∀ (pins : List (Addr × Obj)) (s : Shared) (σ : St) (H : Hp) (x : V) (v vl vu : Value) (lo hi : Option Int) (sl : Addr) (Q : VK), Inv X pins σ H s → RelV x v → s.heap.IsSliceOf sl vl vu .none → IsPart vl lo → IsPart vu hi → r x lo hi H Q →
    ∃ T id, typeLookup (.type T) "__getitem__" = pure (some (.builtin id)) ∧ s.TypeIs v T ∧ wpAny (model X.prog X.w) X.A (getItem v (.ref sl)) (EP X pins σ Q) X.xe s
theorem SlR.or {r r' : V → Option Int → Option Int → Hp → VK → Prop} (h : SlR X r) (h' : SlR X r') : SlR X (fun x lo hi H Q => r x lo hi H Q ∨ r' x lo hi H Q) := by
  intro pins s σ H x v vl vu lo hi sl Q I rx hs pl pu q
  rcases q with q | q
  · exact h pins s σ H x v vl vu lo hi sl Q I rx hs pl pu q
  · exact h' pins s σ H x v vl vu lo hi sl Q I rx hs pl pu q
def tSl (r : V → Option Int → Option Int → Hp → VK → Prop) (te : TE) (tl th : TO) : TE := fun σ H Q => te σ H fun x H1 => tl σ H1 fun l H2 => th σ H2 fun u H3 => r x l u H3 Q
/-- a[lo:hi], any a -/
theorem pe_slice {r : V → Option Int → Option Int → Hp → VK → Prop} (hr : SlR X r) (he : PE X e te) (hl : PO X lo tl) (hu : PO X hi th) : PE X (.Subscript e (.Slice lo hi none p2) pos) (tSl r te tl th) := by
  intro pins s σ H Q I h
  refine Subscript_ (thn (he pins s σ H _ I h) fun v s1 ⟨x, H1, I1, r1, q1⟩ => ?_)
  refine wpAny_Slice (thn (hl pins s1 σ H1 _ I1 q1) fun vl s2 ⟨l, H2, I2, pl, q2⟩ => thn (hu pins s2 σ H2 _ I2 q2) fun vu s3 ⟨u, H3, I3, pu, q3⟩ => ?_)
  rw [evalPart_none]
  refine wpAny_pure ?_
  have I4 : Inv X pins σ H3 { s3 with heap := s3.heap.push { cls := .type "slice", data := .fields #[vl, vu, .none] } } := I3.kept (t' := s3.toks) fun b ob q => Heap.get?_push_of_some _ q
  obtain ⟨T, id, hT, ht, hg⟩ := hr pins { s3 with heap := s3.heap.push { cls := .type "slice", data := .fields #[vl, vu, .none] } } σ H3 x v vl vu l u s3.heap.objs.size Q I4 r1 (Heap.IsSliceOf.new ..) pl pu q3
  show wpAny (model X.prog X.w) X.A (subscriptTail e (.Slice lo hi none p2) v (.ref s3.heap.objs.size)) (EP X pins σ Q) X.xe { s3 with heap := s3.heap.push { cls := .type "slice", data := .fields #[vl, vu, .none] } }
  exact tail_any (ops := [.ref s3.heap.objs.size, v]) ht hT hg (by with_unfolding_all rfl)

/-- the items of xs[lo:hi] -/
def cutV (xs : List V) (lo hi : Option Int) : List V := (xs.drop (HT.sIx xs.length 0 lo)).take (HT.sIx xs.length xs.length hi - HT.sIx xs.length 0 lo)
theorem cutV_length (xs : List V) (lo hi : Option Int) : (cutV xs lo hi).length ≤ xs.length := by
  unfold cutV
  rw [List.length_take, List.length_drop]
  omega
/-- t[lo:hi], not the whole of it (the whole would be t itself) -/
def rSlT (K : PySem.W.Frag) : V → Option Int → Option Int → Hp → VK → Prop := fun x lo hi H Q => ∃ a xs, x = .ref a ∧ SqT K H a xs ∧
  ¬ (HT.sIx xs.length 0 lo = 0 ∧ HT.sIx xs.length xs.length hi = xs.length) ∧ ∀ p, H p = none → Q (.ref p) (upd H p (.tup (cutV xs lo hi)))
theorem sl_tup : SlR X (rSlT X.K) := by
  intro pins s σ H x v vl vu lo hi sl Q I rx hs pl pu h
  obtain ⟨a, xs, rfl, hx, hw, q⟩ := h
  cases rx
  obtain ⟨its, r, ht, hz⟩ := I.tuple hx
  have hlen : its.toArray.size = xs.length := by rw [List.size_toArray]; exact r.length.symm
  refine ⟨"tuple", _, PyProof.Rows.slot_tuple_getitem.lookup, ht.typeIs, ?_⟩
  refine HT.getItem_tuple_cut ht hs pl pu (by rw [hlen]; exact hw) ?_ (by rw [hlen]; exact hz)
  rw [hlen]
  refine ⟨.ref s.heap.objs.size, _, I.laid (t' := s.toks) (o := .tup (cutV xs lo hi)) (fun b ob q => Heap.get?_push_of_some _ q) (Nat.le_refl _) ?_, rfl, q _ (I.hok.fresh (Nat.le_refl _))⟩
  exact ⟨Nat.le_trans (cutV_length xs lo hi) hz, _, (r.drop (HT.sIx xs.length 0 lo)).take (HT.sIx xs.length xs.length hi - HT.sIx xs.length 0 lo), IsTup.new _ _⟩

/-! ### t < u, t + u -/
def rLtT (K : PySem.W.Frag) : R2 := fun x y H Q => ∃ a b ns ms, x = .ref a ∧ y = .ref b ∧ SqT K H a (ns.map V.int) ∧ SqT K H b (ms.map V.int) ∧ Q (.bl (HT.lexLt ns ms)) H
theorem op_ltT (hu : X.A.units < cLine) : OpR X (compareOp .Lt) (rLtT X.K) := by
  intro pins s σ H x y v u Q I rx ry h
  obtain ⟨a, b, ns, ms, rfl, rfl, ha, hb, q⟩ := h
  cases rx
  cases ry
  obtain ⟨its, r1, p1, _⟩ := I.tuple ha
  obtain ⟨its2, r2, p2, _⟩ := I.tuple hb
  have i1 : IntsAre its.toArray.toList ns := intsAre_of r1
  have i2 : IntsAre its2.toArray.toList ms := intsAre_of r2
  exact HT.lt_tupInts p1 p2 i1 i2 hu ⟨.bl (HT.lexLt ns ms), H, I, rfl, q⟩
/-- t + u, t not empty: u empty gives t itself -/
def rCatT (K : PySem.W.Frag) : R2 := fun x y H Q => ∃ a b xs ys, x = .ref a ∧ y = .ref b ∧ SqT K H a xs ∧ SqT K H b ys ∧ xs ≠ [] ∧ xs.length + ys.length ≤ sizeLine ∧
  (ys = [] → Q (.ref a) H) ∧ (ys ≠ [] → ∀ p, H p = none → Q (.ref p) (upd H p (.tup (xs ++ ys))))
theorem Vals.nil_iff {xs : List V} {us : List Value} (r : Vals xs us) : us = [] ↔ xs = [] := by
  cases r with
  | nil => simp
  | cons _ _ => simp
theorem op_catT : OpR X (binaryOp .Add) (rCatT X.K) := by
  intro pins s σ H x y v u Q I rx ry h
  obtain ⟨a, b, xs, ys, rfl, rfl, ha, hb, hx, hz, q1, q2⟩ := h
  cases rx
  cases ry
  obtain ⟨its, r1, p1, _⟩ := I.tuple ha
  obtain ⟨its2, r2, p2, _⟩ := I.tuple hb
  refine HT.cat_tup p1 p2 (fun z => hx (r1.nil_iff.mp z)) (fun z => ⟨.ref a, H, I, rfl, q1 (r2.nil_iff.mp z)⟩) (fun z => ?_) (by rw [← r1.length, ← r2.length]; exact hz)
  refine ⟨.ref s.heap.objs.size, _, I.laid (t' := s.toks) (o := .tup (xs ++ ys)) (fun b ob q => Heap.get?_push_of_some _ q) (Nat.le_refl _) ?_, rfl, q2 (fun w => z (r2.nil_iff.mpr w)) _ (I.hok.fresh (Nat.le_refl _))⟩
  exact ⟨by rw [List.length_append]; exact hz, _, r1.append r2, IsTup.new _ _⟩
/-- tuple(t) -/
theorem call_tupleT : CallR X (.type "tuple") (fun xs H Q => ∃ a ys, xs = [.ref a] ∧ SqT X.K H a ys ∧ Q (.ref a) H) := by
  intro pins s σ H xs us Q I r h
  obtain ⟨a, ys, rfl, ha, q⟩ := h
  obtain ⟨u, rfl, ru⟩ := vals1 r
  cases ru
  obtain ⟨its, _, p1, _⟩ := I.tuple ha
  exact call_tuple_same (items := its.toArray) p1 ⟨.ref a, H, I, rfl, q⟩
end
end L2

namespace L2
open PySem PySem.Spec PyProof.Rows

/-! ### places -/
/-- the place that an index of any sign means -/
def ixN (n : Nat) (i : Int) : Option Nat := if 0 ≤ i then (if i < n then some i.toNat else none) else if -(n : Int) ≤ i then some (i + n).toNat else none
def atI {α : Type} (xs : List α) (i : Int) : Option α := (ixN xs.length i).bind fun j => xs[j]?
theorem ixN_seq {n : Nat} {i : Int} {j : Nat} (h : ixN n i = some j) : seqIndex? i n = some j ∧ j < n ∧ -(n : Int) ≤ i ∧ i < n := by
  unfold ixN at h
  by_cases h0 : 0 ≤ i
  · rw [if_pos h0] at h
    by_cases h1 : i < n
    · rw [if_pos h1] at h
      have e : i.toNat = j := Option.some.inj h
      exact ⟨by rw [seqIndex_of h0 h1, e], by omega, by omega, h1⟩
    · rw [if_neg h1] at h; cases h
  · rw [if_neg h0] at h
    by_cases h1 : -(n : Int) ≤ i
    · rw [if_pos h1] at h
      have e : (i + n).toNat = j := Option.some.inj h
      exact ⟨by rw [seqIndex_neg (by omega) h1, e], by omega, h1, by omega⟩
    · rw [if_neg h1] at h; cases h
theorem atI_get {α : Type} {xs : List α} {i : Int} {v : α} (h : atI xs i = some v) : ∃ j, seqIndex? i xs.length = some j ∧ xs[j]? = some v ∧ j < xs.length ∧ -(xs.length : Int) ≤ i ∧ i < xs.length := by
  unfold atI at h
  cases e : ixN xs.length i with
  | none => rw [e] at h; cases h
  | some j =>
    rw [e] at h
    obtain ⟨h1, h2, h3, h4⟩ := ixN_seq e
    exact ⟨j, h1, h, h2, h3, h4⟩
theorem atI_nat {α : Type} {xs : List α} {j : Nat} {v : α} (h : xs[j]? = some v) : atI xs (j : Int) = some v := by
  have hj : j < xs.length := (List.getElem?_eq_some_iff.mp h).1
  have e : ixN xs.length (j : Int) = some j := by
    unfold ixN
    rw [if_pos (by omega), if_pos (by omega)]; simp
  unfold atI; rw [e]; exact h
theorem atI_last {α : Type} (xs : List α) (v : α) : atI (xs ++ [v]) (-1) = some v := by
  have hl : (xs ++ [v]).length = xs.length + 1 := by simp
  have e : ixN (xs ++ [v]).length (-1) = some xs.length := by
    unfold ixN
    rw [hl, if_neg (by decide), if_pos (by omega)]
    congr 1
    omega
  unfold atI
  rw [e]
  show (xs ++ [v])[xs.length]? = some v
  simp

/-! ### what may be subscripted -/
/-- what stands as an index of a plain subscript -/
def PlainIx (b : Expr) : Prop := ∀ o i, subscripted b false o i = operate [o, i] (getItem o i)
/-- a subscript by values -/
def IxR (X : Cx) (r : R2) : Prop :=
  ∀ (value slice : Expr) (pins : List (Addr × Obj)) (s : Shared) (σ : St) (H : Hp) (x y : V) (v u : Value) (Q : VK), Inv X pins σ H s → RelV x v → RelV y u → r x y H Q →
    subscripted slice false v u = operate [v, u] (getItem v u) → wpAny (model X.prog X.w) X.A (subscriptTail value slice v u) (EP X pins σ Q) X.xe s
/-- a call of a builtin's method by values: the receiver, the arguments -/
def MtR (X : Cx) (id : String) (r : V → List V → Hp → VK → Prop) : Prop :=
  ∀ (pins : List (Addr × Obj)) (s : Shared) (σ : St) (H : Hp) (x : V) (xs : List V) (v : Value) (us : List Value) (Q : VK), Inv X pins σ H s → RelV x v → Vals xs us → r x xs H Q →
    wpAny (model X.prog X.w) X.A (call (.builtin id) (v :: us)) (EP X pins σ Q) X.xe s
section
variable {X : Cx} {a b : Expr} {ta tb : TE} {pos : Pos}
theorem IxR.or {r r' : R2} (h : IxR X r) (h' : IxR X r') : IxR X (fun x y H Q => r x y H Q ∨ r' x y H Q) := by
  intro value slice pins s σ H x y v u Q I rx ry q hs
  rcases q with q | q
  · exact h value slice pins s σ H x y v u Q I rx ry q hs
  · exact h' value slice pins s σ H x y v u Q I rx ry q hs
theorem MtR.or {id : String} {r r' : V → List V → Hp → VK → Prop} (h : MtR X id r) (h' : MtR X id r') : MtR X id (fun x xs H Q => r x xs H Q ∨ r' x xs H Q) := by
  intro pins s σ H x xs v us Q I rx rs q
  rcases q with q | q
  · exact h pins s σ H x xs v us Q I rx rs q
  · exact h' pins s σ H x xs v us Q I rx rs q
/-- a[b] -/
theorem pe_ix {r : R2} (hr : IxR X r) (ha : PE X a ta) (hb : PE X b tb) (hs : PlainIx b) : PE X (.Subscript a b pos) (tOp r ta tb) := by
  intro pins s σ H Q I h
  exact Subscript_ (binT ha hb I h fun v u s2 x y H2 I2 rx ry q => hr a b pins s2 σ H2 x y v u Q I2 rx ry q (hs _ _))

def rIxL (K : PySem.W.Frag) : R2 := fun x y H Q => ∃ p xs i v, x = .ref p ∧ y = .int i ∧ SqL K H p xs ∧ atI xs i = some v ∧ Q v H
def rIxT (K : PySem.W.Frag) : R2 := fun x y H Q => ∃ p xs i v, x = .ref p ∧ y = .int i ∧ SqT K H p xs ∧ atI xs i = some v ∧ Q v H
def rIxS : R2 := fun x y H Q => ∃ z i c, x = .str z ∧ y = .int i ∧ z.length ≤ sizeLine ∧ atI z.cps.toList i = some c ∧ Q (.str ⟨#[c]⟩) H
theorem ix_list : IxR X (rIxL X.K) := by
  intro value slice pins s σ H x y v u Q I rx ry h hs
  obtain ⟨p, xs, i, z, rfl, rfl, hq, he, q⟩ := h
  cases rx
  obtain ⟨t, rfl⟩ := ry
  obtain ⟨its, r, pl, hz⟩ := I.list hq
  obtain ⟨j, h1, h2, h3, h4, h5⟩ := atI_get he
  obtain ⟨w, ew, rw'⟩ := r.get h2
  have hl := r.length
  have hn := line63
  have fin : EP X pins σ Q w s := ⟨z, H, I, rw', q⟩
  by_cases h0 : 0 ≤ i
  · have hj : i.toNat = j := by
      rw [seqIndex_of h0 h5] at h1
      exact Option.some.inj h1
    exact item_listR pl.isList h0 (by omega) (by rw [hj]; simpa using ew) fin hs
  · have hj : (i + (its.toArray.size : Int)).toNat = j := by
      rw [seqIndex_neg (by omega) h4] at h1
      rw [List.size_toArray, ← hl]
      exact Option.some.inj h1
    exact subscriptTail_builtinR (x := w) pl.isList.typeIs slot_list_getitem.lookup
      (wpAny_getItem_list_neg (Q := fun r s' => r = w ∧ EP X pins σ Q r s') pl.isList (by omega) (by rw [List.size_toArray] <;> omega) (by omega) (by rw [hj]; simpa using ew) ⟨rfl, fin⟩) hs
theorem ix_tup : IxR X (rIxT X.K) := by
  intro value slice pins s σ H x y v u Q I rx ry h hs
  obtain ⟨p, xs, i, z, rfl, rfl, hq, he, q⟩ := h
  cases rx
  obtain ⟨t, rfl⟩ := ry
  obtain ⟨its, r, pl, hz⟩ := I.tuple hq
  obtain ⟨j, h1, h2, h3, h4, h5⟩ := atI_get he
  obtain ⟨w, ew, rw'⟩ := r.get h2
  have hl := r.length
  have hn := line63
  have fin : EP X pins σ Q w s := ⟨z, H, I, rw', q⟩
  exact subscriptTail_builtinR (x := w) pl.typeIs slot_tuple_getitem.lookup
    (getItem_tuple (j := j) (Q := fun r s' => r = w ∧ EP X pins σ Q r s') pl (by omega) (by omega) (by rw [List.size_toArray, ← hl]; exact h1) (by simpa using ew) ⟨rfl, fin⟩) hs
theorem ix_str : IxR X rIxS := by
  intro value slice pins s σ H x y v u Q I rx ry h hs
  obtain ⟨z, i, c, rfl, rfl, hz, he, q⟩ := h
  obtain ⟨t, rfl⟩ := rx
  obtain ⟨t', rfl⟩ := ry
  obtain ⟨j, h1, h2, h3, h4, h5⟩ := atI_get he
  have hl : z.cps.toList.length = z.length := by simp [Str.length]
  rw [hl] at h1 h4 h5
  have hn := line63
  exact tail_any (typeIs_str s z t) slot_str_getitem.lookup (getItem_str (c := c) (by
    have e1 : decide (i < -(2 ^ 63 : Int)) = false := decide_eq_false (by omega)
    have e2 : decide (i ≥ 2 ^ 63) = false := decide_eq_false (by omega)
    rw [e1, e2, Bool.or_false]) (by rw [h1]; simpa using h2) ⟨.str ⟨#[c]⟩, H, I.tok _, ⟨_, rfl⟩, q⟩) hs
/-- list, tuple or str -/
def rIx (K : PySem.W.Frag) : R2 := fun x y H Q => rIxL K x y H Q ∨ rIxT K x y H Q ∨ rIxS x y H Q
theorem ix_seq : IxR X (rIx X.K) := ix_list.or (ix_tup.or ix_str)

/-! ### xs[i] = v, any sign -/
/-- the list's object behind a store -/
theorem mapSeq_set (its : List Value) (n j : Nat) (u : Value) : Obj.mapSeq (·.setIfInBounds j u) { cls := .type "list", data := .seq its.toArray n } = { cls := .type "list", data := .seq (its.set j u).toArray n } := by
  simp [Obj.mapSeq]
theorem Inv.lst {pins : List (Addr × Obj)} {σ : St} {H : Hp} {s : Shared} {p : Addr} {xs : List V} (I : Inv X pins σ H s) (h : H p = some (.lst xs)) :
    ∃ (its : List Value) (n : Nat), Vals xs its ∧ s.heap.get? p = some { cls := .type "list", data := .seq its.toArray n } ∧ xs.length ≤ sizeLine := by
  obtain ⟨z, its, n, r, e⟩ := I.hok p _ h
  exact ⟨its, n, r, e, z⟩
/-- the list at p is written by an update of its object -/
theorem Inv.lstUpd {pins : List (Addr × Obj)} {σ : St} {H : Hp} {s : Shared} {p : Addr} {xs ys : List V} {its its' : List Value} {n n' : Nat} {f : Obj → Obj} (I : Inv X pins σ H s) (h : H p = some (.lst xs))
    (ho : s.heap.get? p = some { cls := .type "list", data := .seq its.toArray n }) (hf : f { cls := .type "list", data := .seq its.toArray n } = { cls := .type "list", data := .seq its'.toArray n' }) (r : Vals ys its') (hz : ys.length ≤ sizeLine) (t : Nat) (ht : s.toks ≤ t := by first | exact Nat.le_refl _ | exact Nat.le_succ _ | assumption | omega) :
    Inv X pins σ (upd H p (.lst ys)) { s with heap := s.heap.update p f, toks := t } := by
  have e : (s.heap.update p f).get? p = some { cls := .type "list", data := .seq its'.toArray n' } := by
    rw [Heap.get?_update_self f ho (by rw [hf] <;> rfl), hf]
  refine I.write (x := p) (e := p) (by rw [h]; trivial) (.inl rfl) (fun b u hb q => (Heap.get?_update_other _ _ (Ne.symm hb)).trans q) ⟨_, e⟩ ?_
  exact ⟨hz, its', n', r, e⟩
def rSetL : V → V → V → Hp → (Hp → Prop) → Prop := fun o i v H Q => ∃ p xs k j, o = .ref p ∧ i = .int k ∧ H p = some (.lst xs) ∧ ixN xs.length k = some j ∧ Q (upd H p (.lst (xs.set j v)))
theorem set_list : PSet X rSetL := by
  intro pins s σ H o i v ov iv u Q I ro ri rv h
  obtain ⟨p, xs, k, j, rfl, rfl, hp, hj, q⟩ := h
  cases ro
  obtain ⟨t, rfl⟩ := ri
  obtain ⟨its, n, r, ho, hz⟩ := I.lst hp
  obtain ⟨h1, h2, h3, h4⟩ := ixN_seq hj
  have hl := r.length
  have hn := line63
  have I' : Inv X pins σ (upd H p (.lst (xs.set j v))) { s with heap := s.heap.update p (Obj.mapSeq (·.setIfInBounds j u)) } :=
    I.lstUpd hp ho (mapSeq_set its n j u) (r.set rv j) (by rw [List.length_set]; exact hz) s.toks
  by_cases h0 : 0 ≤ k
  · have hk : k.toNat = j := by
      rw [seqIndex_of h0 h4] at h1
      exact Option.some.inj h1
    exact PySem.W.ki_setAt ho h0 (by omega) (by rw [List.size_toArray, ← hl]; exact h4) (by rw [hk]; exact ⟨_, I', q⟩)
  · have hk : (k + (its.toArray.size : Int)).toNat = j := by
      rw [seqIndex_neg (by omega) h3] at h1
      rw [List.size_toArray, ← hl]
      exact Option.some.inj h1
    exact PySem.W.ki_setBack ho (by omega) (by rw [List.size_toArray, ← hl]; exact h3) (by omega) (by rw [hk]; exact ⟨_, I', q⟩)

/-! ### slices -/
theorem slice_bounds (lo hi : Option Int) (n : Nat) : (sliceBounds lo hi none n).1 = ((HT.sIx n 0 lo : Nat) : Int) ∧ (sliceBounds lo hi none n).2.1 = ((HT.sIx n n hi : Nat) : Int) ∧ (sliceBounds lo hi none n).2.2 = 1 := by
  refine ⟨?_, ?_, rfl⟩
  · cases lo with
    | none => simp [sliceBounds, HT.sIx]
    | some i =>
      simp only [sliceBounds, HT.sIx, Option.getD_none, show (1 : Int) > 0 by decide, if_true]
      by_cases h : i < 0
      · simp only [h, if_true] <;> omega
      · simp only [h, if_false] <;> omega
  · cases hi with
    | none => simp [sliceBounds, HT.sIx]
    | some i =>
      simp only [sliceBounds, HT.sIx, Option.getD_none, show (1 : Int) > 0 by decide, if_true]
      by_cases h : i < 0
      · simp only [h, if_true] <;> omega
      · simp only [h, if_false] <;> omega
theorem slicePick_cut (its : List Value) (lo hi : Option Int) : slicePick its.toArray lo hi none = ((its.drop (HT.sIx its.length 0 lo)).take (HT.sIx its.length its.length hi - HT.sIx its.length 0 lo)).toArray := by
  obtain ⟨h1, h2, h3⟩ := slice_bounds lo hi its.toArray.size
  unfold slicePick
  rw [h1, h2, h3]
  simp only [sliceRange_one, pick_run, List.size_toArray] <;> rfl
/-- xs[lo:hi] of a list: a new list -/
def rSlL (K : PySem.W.Frag) : V → Option Int → Option Int → Hp → VK → Prop := fun x lo hi H Q => ∃ a xs, x = .ref a ∧ SqL K H a xs ∧ ∀ p, H p = none → Q (.ref p) (upd H p (.lst (cutV xs lo hi)))
theorem sl_list : SlR X (rSlL X.K) := by
  intro pins s σ H x v vl vu lo hi sl Q I rx hs pl pu h
  obtain ⟨a, xs, rfl, hx, q⟩ := h
  cases rx
  obtain ⟨its, r, ht, hz⟩ := I.list hx
  have hlen := r.length
  refine ⟨"list", _, slot_list_getitem.lookup, ht.isList.typeIs, ?_⟩
  refine wpAny_getItem_list_slice ht.isList hs pl pu .none (by simp) ?_ (by rw [List.size_toArray] <;> omega)
  rw [slicePick_cut, ← hlen]
  refine ⟨.ref s.heap.objs.size, _, I.laid (t' := s.toks) (o := .lst (cutV xs lo hi)) (fun b ob q => Heap.get?_push_of_some _ q) (Nat.le_refl _) ?_, rfl, q _ (I.hok.fresh (Nat.le_refl _))⟩
  exact ⟨Nat.le_trans (cutV_length xs lo hi) hz, _, 0, (r.drop (HT.sIx xs.length 0 lo)).take (HT.sIx xs.length xs.length hi - HT.sIx xs.length 0 lo), Heap.get?_push_size _ rfl⟩

/-! ### in, not in: flat items -/
def flatV : V → Bool
  | .non => true
  | .bl _ => true
  | .int _ => true
  | .str _ => true
  | _ => false
/-- == of flat values -/
def eqV : V → V → Bool
  | .non, .non => true
  | .bl a, .bl b => a == b
  | .bl a, .int b => (if a then 1 else 0) == b
  | .int a, .bl b => a == (if b then 1 else 0)
  | .int a, .int b => a == b
  | .str a, .str b => a == b
  | _, _ => false
theorem eqAt_V {A : Around} {s : Shared} {y x : V} {u v : Value} (ry : RelV y u) (rx : RelV x v) (fy : flatV y = true) (fx : flatV x = true) : SeqAt.EqAt A s u v (eqV y x) := by
  cases y with
  | non =>
    cases ry
    cases x with
    | non => cases rx; exact SeqAt.EqAt.same _
    | bl b => cases rx; exact SeqAt.EqAt.none_bool b
    | int b => obtain ⟨t, rfl⟩ := rx; exact SeqAt.EqAt.none_int b t
    | str b => obtain ⟨t, rfl⟩ := rx; exact SeqAt.EqAt.none_str b t
    | _ => exact absurd (show false = true from fx) Bool.false_ne_true
  | bl a =>
    cases ry
    cases x with
    | non => cases rx; exact SeqAt.EqAt.bool_none a
    | bl b => cases rx; exact SeqAt.EqAt.bool_bool a b
    | int b => obtain ⟨t, rfl⟩ := rx; exact SeqAt.EqAt.bool_int a b t
    | str b => obtain ⟨t, rfl⟩ := rx; exact SeqAt.EqAt.bool_str a b t
    | _ => exact absurd (show false = true from fx) Bool.false_ne_true
  | int a =>
    obtain ⟨t', rfl⟩ := ry
    cases x with
    | non => cases rx; exact SeqAt.EqAt.int_none a t'
    | bl b => cases rx; exact SeqAt.EqAt.int_bool a t' b
    | int b => obtain ⟨t, rfl⟩ := rx; exact SeqAt.EqAt.int_int a t' b t
    | str b => obtain ⟨t, rfl⟩ := rx; exact SeqAt.EqAt.int_str a t' b t
    | _ => exact absurd (show false = true from fx) Bool.false_ne_true
  | str a =>
    obtain ⟨t', rfl⟩ := ry
    cases x with
    | non => cases rx; exact SeqAt.EqAt.str_none a t'
    | bl b => cases rx; exact SeqAt.EqAt.str_bool a t' b
    | int b => obtain ⟨t, rfl⟩ := rx; exact SeqAt.EqAt.str_int a t' b t
    | str b => obtain ⟨t, rfl⟩ := rx; exact SeqAt.EqAt.str_str a t' b t
    | _ => exact absurd (show false = true from fx) Bool.false_ne_true
  | _ => exact absurd (show false = true from fy) Bool.false_ne_true
/-- the items' answers, read off the values (a value's own answer does not lean on its token) -/
def eqU (x : V) (u : Value) : Bool := match u with
  | .none => eqV .non x
  | .bool b => eqV (.bl b) x
  | .int i _ => eqV (.int i) x
  | .str z _ => eqV (.str z) x
  | _ => false
theorem eqU_of {x y : V} {u : Value} (r : RelV y u) (f : flatV y = true) : eqU x u = eqV y x := by
  cases y with
  | non => cases r; rfl
  | bl b => cases r; rfl
  | int i => obtain ⟨t, rfl⟩ := r; rfl
  | str z => obtain ⟨t, rfl⟩ := r; rfl
  | _ => exact absurd (show false = true from f) Bool.false_ne_true
theorem any_eqU {x : V} : ∀ {xs : List V} {us : List Value}, Vals xs us → xs.all flatV = true → us.any (eqU x) = xs.any fun y => eqV y x
  | _, _, .nil, _ => rfl
  | y :: xs, u :: us, .cons r t, f => by
    rw [List.all_cons, Bool.and_eq_true] at f
    rw [List.any_cons, List.any_cons, eqU_of r f.1, any_eqU t f.2]
theorem mem_eqAt {A : Around} {s : Shared} {x : V} {v : Value} (rx : RelV x v) (fx : flatV x = true) : ∀ {xs : List V} {us : List Value}, Vals xs us → xs.all flatV = true → ∀ u ∈ us, SeqAt.EqAt A s u v (eqU x u)
  | _, _, .nil, _ => fun u hu => by cases hu
  | y :: xs, u :: us, .cons r t, f => fun u' hu => by
    rw [List.all_cons, Bool.and_eq_true] at f
    rcases List.mem_cons.mp hu with rfl | hu
    · rw [eqU_of r f.1]; exact eqAt_V r rx f.1 fx
    · exact mem_eqAt rx fx t f.2 u' hu
def inV (x : V) (xs : List V) : Bool := xs.any fun y => eqV y x
/-- x in a list or tuple of flat items -/
def rIn (K : PySem.W.Frag) (neg : Bool) : R2 := fun x y H Q => ∃ p xs, y = .ref p ∧ (SqL K H p xs ∨ SqT K H p xs) ∧ flatV x = true ∧ xs.all flatV = true ∧ Q (.bl (if neg then !inV x xs else inV x xs)) H
theorem op_in_seq : OpR X (compareOp .In) (rIn X.K false) := by
  intro pins s σ H x y v u Q I rx ry h
  obtain ⟨p, xs, rfl, hq, fx, fs, q⟩ := h
  cases ry
  rcases hq with hq | hq
  · obtain ⟨its, r, pl, hz⟩ := I.list hq
    refine SeqAt.in_listAt (eqU x) pl.isList (fun w hw => mem_eqAt rx fx r fs w (by simpa using hw)) ⟨.bl _, H, I, rfl, ?_⟩
    rw [show its.toArray.any (eqU x) = its.any (eqU x) by simp, any_eqU r fs]
    exact q
  · obtain ⟨its, r, pl, hz⟩ := I.tuple hq
    refine SeqAt.in_tupleAt (eqU x) pl (fun w hw => mem_eqAt rx fx r fs w (by simpa using hw)) ⟨.bl _, H, I, rfl, ?_⟩
    rw [show its.toArray.any (eqU x) = its.any (eqU x) by simp, any_eqU r fs]
    exact q
theorem op_notIn_seq : OpR X (compareOp .NotIn) (rIn X.K true) := by
  intro pins s σ H x y v u Q I rx ry h
  obtain ⟨p, xs, rfl, hq, fx, fs, q⟩ := h
  cases ry
  rcases hq with hq | hq
  · obtain ⟨its, r, pl, hz⟩ := I.list hq
    refine SeqAt.notIn_listAt (eqU x) pl.isList (fun w hw => mem_eqAt rx fx r fs w (by simpa using hw)) ⟨.bl _, H, I, rfl, ?_⟩
    rw [show its.toArray.any (eqU x) = its.any (eqU x) by simp, any_eqU r fs]
    exact q
  · obtain ⟨its, r, pl, hz⟩ := I.tuple hq
    refine SeqAt.notIn_tupleAt (eqU x) pl (fun w hw => mem_eqAt rx fx r fs w (by simpa using hw)) ⟨.bl _, H, I, rfl, ?_⟩
    rw [show its.toArray.any (eqU x) = its.any (eqU x) by simp, any_eqU r fs]
    exact q
theorem op_notIn_str : OpR X (compareOp .NotIn) (fun x y H Q => ∃ i j, x = .str i ∧ y = .str j ∧ Q (.bl (!(!(Builtin.Str.occurrences j i 0 j.length 1).isEmpty))) H) := by
  intro pins s σ H x y v u Q I rx ry h
  obtain ⟨i, j, rfl, rfl, q⟩ := h
  obtain ⟨t, rfl⟩ := rx
  obtain ⟨t', rfl⟩ := ry
  exact notIn_str ⟨.bl _, H, I, rfl, q⟩

/-! ### len, list(x), tuple(x) of any list or tuple that is read -/
theorem call_len_seq : CallR X (.builtin "len") (fun xs H Q => ∃ p ys, xs = [.ref p] ∧ (SqL X.K H p ys ∨ SqT X.K H p ys) ∧ Q (.int ys.length) H) := by
  intro pins s σ H xs us Q I r h
  obtain ⟨p, ys, rfl, hq, q⟩ := h
  obtain ⟨u, rfl, rx⟩ := vals1 r
  cases rx
  have hn := line63
  rcases hq with hq | hq
  · obtain ⟨its, r', pl, hz⟩ := I.list hq
    have hlen := r'.length
    exact Calls.call_len_list pl.isList (by simp only [List.size_toArray] <;> omega) ⟨.int ys.length, H, I.tok _, ⟨s.toks + 1, by rw [List.size_toArray, hlen]⟩, q⟩
  · obtain ⟨its, r', pl, hz⟩ := I.tuple hq
    have hlen := r'.length
    exact len_tuple pl (by simp only [List.size_toArray] <;> omega) ⟨.int ys.length, H, I.tok _, ⟨s.toks + 1, by rw [List.size_toArray, hlen]⟩, q⟩
theorem call_len_str : CallR X (.builtin "len") (fun xs H Q => ∃ z, xs = [.str z] ∧ z.length ≤ sizeLine ∧ Q (.int z.length) H) := by
  intro pins s σ H xs us Q I r h
  obtain ⟨z, rfl, hz, q⟩ := h
  obtain ⟨u, rfl, t, rfl⟩ := vals1 r
  have hn := line63
  exact len_str (by omega) ⟨.int z.length, H, I.tok _, ⟨_, rfl⟩, q⟩
theorem CallR.or {f : Value} {r r' : List V → Hp → VK → Prop} (h : CallR X f r) (h' : CallR X f r') : CallR X f (fun xs H Q => r xs H Q ∨ r' xs H Q) := by
  intro pins s σ H xs us Q I rs q
  rcases q with q | q
  · exact h pins s σ H xs us Q I rs q
  · exact h' pins s σ H xs us Q I rs q
theorem call_list_of : CallR X (.type "list") (fun xs H Q => ∃ p ys, xs = [.ref p] ∧ (SqL X.K H p ys ∨ SqT X.K H p ys) ∧ ∀ l, H l = none → Q (.ref l) (upd H l (.lst ys))) := by
  intro pins s σ H xs us Q I r h
  obtain ⟨p, ys, rfl, hq, q⟩ := h
  obtain ⟨u, rfl, rx⟩ := vals1 r
  cases rx
  have fin : ∀ (its : List Value), Vals ys its → ys.length ≤ sizeLine → ∀ (h' : Heap) (c' : Nat), (∀ b o', s.heap.get? b = some o' → h'.get? b = some o') →
      h'.get? s.heap.objs.size = some { cls := .type "list", dict := none, data := .seq its.toArray c', slots := #[] } → EP X pins σ Q (.ref s.heap.objs.size) { s with heap := h' } := fun its r' hz h' c' kp e =>
    ⟨.ref s.heap.objs.size, _, I.laid (t' := s.toks) kp (Nat.le_refl _) (show ObjOk X.prog X.w _ h' _ (.lst ys) from ⟨hz, its, c', r', e⟩), rfl, q _ (I.hok.fresh (Nat.le_refl _))⟩
  rcases hq with hq | hq
  · obtain ⟨its, r', pl, hz⟩ := I.list hq
    have hlen := r'.length
    obtain ⟨o, ho, hc, n, hd⟩ := pl.isList
    exact call_list_seq p (.inl rfl) ho hc hd (fun h' c' kp e => fin its r' hz h' c' kp e) (by simp only [List.size_toArray] <;> omega)
  · obtain ⟨its, r', pl, hz⟩ := I.tuple hq
    have hlen := r'.length
    obtain ⟨o, ho, hc, n, hd⟩ := pl
    exact call_list_seq p (.inr rfl) ho hc hd (fun h' c' kp e => fin its r' hz h' c' kp e) (by simp only [List.size_toArray] <;> omega)
theorem call_tuple_of : CallR X (.type "tuple") (fun xs H Q => ∃ p ys, xs = [.ref p] ∧ ((SqL X.K H p ys ∧ ∀ l, H l = none → Q (.ref l) (upd H l (.tup ys))) ∨ (SqT X.K H p ys ∧ Q (.ref p) H))) := by
  intro pins s σ H xs us Q I r h
  obtain ⟨p, ys, rfl, h⟩ := h
  obtain ⟨u, rfl, rx⟩ := vals1 r
  cases rx
  rcases h with ⟨hq, q⟩ | ⟨hq, q⟩
  · obtain ⟨its, r', pl, hz⟩ := I.list hq
    have hlen := r'.length
    refine call_tuple_list pl.isList (fun h' kp => ?_) (by simp only [List.size_toArray] <;> omega)
    have I1 : Inv X pins σ H { s with heap := h' } := I.kept (t' := s.toks) kp
    have I2 : Inv X pins σ (upd H h'.objs.size (.tup ys)) { s with heap := h'.push { cls := .type "tuple", data := .seq its.toArray } } :=
      I1.laid (t' := s.toks) (fun b o e => Heap.get?_push_of_some _ e) (Nat.le_refl _) (show ObjOk X.prog X.w _ _ _ (.tup ys) from ⟨hz, its, r', IsTup.new _ _⟩)
    exact ⟨.ref h'.objs.size, _, I2, rfl, q _ (I1.hok.fresh (Nat.le_refl _))⟩
  · obtain ⟨its, r', pl, hz⟩ := I.tuple hq
    exact call_tuple_same pl ⟨.ref p, H, I, rfl, q⟩

/-! ### the call of a builtin's method: o.m(..) -/
/-- the value is of that builtin type -/
def tyV (K : PySem.W.Frag) (T : String) (x : V) (H : Hp) : Prop := match x with
  | .str _ => T = "str"
  | .int _ => T = "int"
  | .ref p => (T = "list" ∧ ∃ xs, SqL K H p xs) ∨ (T = "tuple" ∧ ∃ o, K.lookup p = some o ∧ o.cls = .type "tuple" ∧ o.dict = none) ∨
      (T = "dict" ∧ ((∃ kvs, H p = some (.dK kvs)) ∨ ∃ kvs, H p = some (.dT kvs))) ∨ (T = "set" ∧ ∃ S n, H p = some (.set S n))
  | _ => False
theorem tyV_is {pins : List (Addr × Obj)} {σ : St} {H : Hp} {s : Shared} {T : String} {x : V} {v : Value} (I : Inv X pins σ H s) (r : RelV x v) (ty : tyV X.K T x H) :
    s.TypeIs v T ∧ ∀ a, v = .ref a → ∃ ob, s.heap.get? a = some ob ∧ ob.dict = none := by
  cases x with
  | str z =>
    obtain ⟨t, rfl⟩ := r
    cases (show T = "str" from ty)
    exact ⟨typeIs_str s z t, fun _ e => nomatch e⟩
  | int i =>
    obtain ⟨t, rfl⟩ := r
    cases (show T = "int" from ty)
    exact ⟨typeIs_int s i t, fun _ e => nomatch e⟩
  | ref p =>
    cases r
    rcases ty with ⟨rfl, xs, hq⟩ | ⟨rfl, o, hk, hc, hd⟩ | ⟨rfl, hk⟩ | ⟨rfl, S, n, hk⟩
    · obtain ⟨its, _, pl, _⟩ := I.list hq
      refine ⟨pl.isList.typeIs, fun a e => ?_⟩
      cases e
      obtain ⟨o, n, e, c, hd, _⟩ := pl
      exact ⟨o, e, hd⟩
    · refine ⟨⟨o, I.kIn p o hk, hc⟩, fun a e => ?_⟩
      cases e
      exact ⟨o, I.kIn _ o hk, hd⟩
    · have z : ∃ o, s.heap.get? p = some o ∧ o.ExactDict := by
        rcases hk with ⟨kvs, hk⟩ | ⟨kvs, hk⟩
        · obtain ⟨_, _, _, _, o, _, _, e, ex, _⟩ := I.hok p _ hk
          exact ⟨o, e, ex⟩
        · obtain ⟨_, _, _, _, o, _, _, e, ex, _⟩ := I.hok p _ hk
          exact ⟨o, e, ex⟩
      obtain ⟨o, e, ex⟩ := z
      refine ⟨⟨o, e, ex.1⟩, fun a e2 => ?_⟩
      cases e2
      exact ⟨o, e, ex.2.1⟩
    · obtain ⟨o, _, _, _, e, ex, _⟩ := I.hok p _ hk
      refine ⟨⟨o, e, ex.1⟩, fun a e2 => ?_⟩
      cases e2
      exact ⟨o, e, ex.2.1⟩
  | _ => exact False.elim ty
def tBM0 (K : PySem.W.Frag) (T : String) (r : V → List V → Hp → VK → Prop) (to : TE) : TE := fun σ H Q => to σ H fun x H1 => tyV K T x H1 ∧ r x [] H1 Q
def tBM (K : PySem.W.Frag) (T : String) (r : V → List V → Hp → VK → Prop) (to : TE) (t : TA) : TE := fun σ H Q => to σ H fun x H1 => tyV K T x H1 ∧ t σ H1 fun xs H2 => r x xs H2 Q
variable {o e : Expr} {es : List Expr} {to : TE} {t : TA} {name : Str} {apos cpos : Pos} {T id : String} {r : V → List V → Hp → VK → Prop}
theorem pe_bm0 (pa : PlainAttrs T) (slot : Slot T name id) (hty : typeOf (.builtin id) = pure (.type "method_descriptor")) (hm : MtR X id r) (ho : PE X o to)
    (hbase : attributeBase o name X.env (eval o X.env) = eval o X.env := by rfl) (hline : (apos.endLine == cpos.line) = true := by rfl) : PE X (.Call (.Attribute o name apos) [] [] cpos) (tBM0 X.K T r to) := by
  intro pins s σ H Q I h
  refine wpAny_Call_method0_late hbase hline (thn (ho pins s σ H _ I h) fun v s1 ⟨x, H1, I1, r1, ty, q1⟩ => ?_)
  obtain ⟨h1, h2⟩ := tyV_is I1 r1 ty
  exact ⟨T, id, pa, slot, hty, h1, h2, Calls.callWith_builtin rfl (PySem.evalArgs_none (hm pins s1 σ H1 x [] v [] Q I1 r1 .nil q1))⟩
theorem pe_bm (pa : PlainAttrs T) (slot : Slot T name id) (hty : typeOf (.builtin id) = pure (.type "method_descriptor")) (hm : MtR X id r) (ho : PE X o to) (ha : PA X (e :: es) t)
    (hbase : attributeBase o name X.env (eval o X.env) = eval o X.env := by rfl)
    (hfew : ((backTo cpos (starEach (e :: es) X.env)).all (fun x => !x.1) && (backToKw cpos (keywordEach [] X.env)).all (fun x => x.1.isSome)
      && decide ((e :: es).length + ([] : List Keyword).length + (if ([] : List Keyword).isEmpty then 0 else 1) < 30)) = true := by rfl)
    (hline : (apos.endLine == cpos.line) = true := by rfl) (hs : starEach (e :: es) X.env = (false, eval e X.env) :: starEach es X.env := by rfl) (hplain : (backTo cpos (starEach es X.env)).any (·.1) = false := by rfl) :
    PE X (.Call (.Attribute o name apos) (e :: es) [] cpos) (tBM X.K T r to t) := by
  intro pins s σ H Q I h
  refine wpAny_Call_method_late hbase hfew hline rfl (thn (ho pins s σ H _ I h) fun v s1 ⟨x, H1, I1, r1, ty, q1⟩ => ?_)
  obtain ⟨h1, h2⟩ := tyV_is I1 r1 ty
  refine ⟨T, id, pa, slot, hty, h1, h2, ?_⟩
  have hA := ha cpos pins s1 σ H1 _ I1 q1
  rw [hs] at hA ⊢
  refine Calls.callWith_builtin (by show (false || (backTo cpos (starEach es X.env)).any (·.1)) = false; rw [hplain] <;> rfl) (Calls.evalArgs_plain ?_)
  exact thn hA fun us s2 ⟨vs, H2, I2, r2, q2⟩ => hm pins s2 σ H2 x vs v us Q I2 r1 r2 q2
/- xs.append(e), list.index on a module's tuple .. are MtR facts of 06m -/
end
end L2

namespace L2
open PySem PySem.Spec PyProof.Rows

def MtM (X : Cx) (id : String) (r : V → List V → Hp → VK → Prop) : Prop :=
  ∀ (pins : List (Addr × Obj)) (s : Shared) (σ : St) (H : Hp) (x : V) (xs : List V) (v : Value) (us : List Value) (Q : VK), Inv X pins σ H s → RelV x v → Vals xs us → r x xs H Q →
    wpAny (model X.prog X.w) X.A (call (.builtin id) (v :: us)) (EP X pins σ Q) X.xe s

/-! ### lists of values -/
theorem Vals.one : ∀ {x : V} {us : List Value}, Vals [x] us → ∃ u, us = [u] ∧ RelV x u
  | _, _, .cons r .nil => ⟨_, rfl, r⟩
theorem Vals.two : ∀ {x y : V} {us : List Value}, Vals [x, y] us → ∃ u v, us = [u, v] ∧ RelV x u ∧ RelV y v
  | _, _, _, .cons r (.cons q .nil) => ⟨_, _, rfl, r, q⟩
theorem Vals.zero : ∀ {us : List Value}, Vals [] us → us = []
  | _, .nil => rfl
theorem Vals.dropLast {xs : List V} {us : List Value} (h : Vals xs us) : Vals xs.dropLast us.dropLast := by
  induction h with
  | nil => exact .nil
  | cons r t ih =>
    cases t with
    | nil => exact .nil
    | cons q t' => exact .cons r ih
theorem Vals.eraseIdx : ∀ {xs : List V} {us : List Value} (i : Nat), Vals xs us → Vals (xs.eraseIdx i) (us.eraseIdx i)
  | _, _, _, .nil => .nil
  | _, _, 0, .cons _ t => t
  | _, _, i + 1, .cons r t => .cons r (Vals.eraseIdx i t)
theorem Vals.reverse {xs : List V} {us : List Value} (h : Vals xs us) : Vals xs.reverse us.reverse := by
  induction h with
  | nil => exact .nil
  | cons r t ih => rw [List.reverse_cons, List.reverse_cons]; exact Vals.append ih (.cons r .nil)
theorem Vals.rep {xs : List V} {us : List Value} (h : Vals xs us) : ∀ k : Nat, Vals (List.replicate k xs).flatten (List.replicate k us).flatten
  | 0 => .nil
  | k + 1 => by
    rw [List.replicate_succ, List.replicate_succ, List.flatten_cons, List.flatten_cons]
    exact Vals.append h (Vals.rep h k)
theorem erase_last {α : Type} (l : List α) : l.eraseIdx (l.length - 1) = l.dropLast := by
  induction l with
  | nil => rfl
  | cons a r ih =>
    cases r with
    | nil => rfl
    | cons b r =>
      have e : (a :: b :: r).length - 1 = ((b :: r).length - 1) + 1 := by
        have h1 : (a :: b :: r).length = r.length + 2 := rfl
        have h2 : (b :: r).length = r.length + 1 := rfl
        omega
      rw [e, List.eraseIdx_cons_succ, ih]
      all_goals rfl
theorem len_erase {α : Type} : ∀ (l : List α) (i : Nat), (l.eraseIdx i).length ≤ l.length
  | [], _ => Nat.le_refl _
  | _ :: _, 0 => Nat.le_succ _
  | _ :: r, i + 1 => Nat.succ_le_succ (len_erase r i)
theorem foldl_rep (its : List Value) : ∀ (k : Nat) (acc : List Value),
    List.foldl (fun x1 x2 => x1 ++ x2) acc.toArray (List.replicate k its.toArray) = (acc ++ (List.replicate k its).flatten).toArray
  | 0, acc => by simp
  | k + 1, acc => by
    have e : acc.toArray ++ its.toArray = (acc ++ its).toArray := by simp
    have e2 : (acc ++ its) ++ (List.replicate k its).flatten = acc ++ (List.replicate (k + 1) its).flatten := by
      rw [List.replicate_succ, List.flatten_cons, List.append_assoc]
    rw [← e2, ← foldl_rep its k (acc ++ its), ← e, List.replicate_succ, List.foldl_cons]

section
variable {X : Cx} {pins : List (Addr × Obj)} {σ : St} {H : Hp} {s : Shared} {l b : Addr} {xs ys zs : List V}

/-! ### the two steps: a tracked list is rewritten, a new list is laid -/
theorem Inv.lset {its its' : List Value} {n : Nat} {f : Array Value → Array Value} {t' : Nat} (I : Inv X pins σ H s) (hH : H l = some (.lst xs))
    (e : s.heap.get? l = some { cls := .type "list", data := .seq its.toArray n }) (hf : f its.toArray = its'.toArray) (hv : Vals ys its') (hz : ys.length ≤ sizeLine) (ht : s.toks ≤ t' := by first | exact Nat.le_refl _ | exact Nat.le_succ _ | assumption | omega) :
    Inv X pins σ (upd H l (.lst ys)) { s with heap := s.heap.update l (Obj.mapSeq f), toks := t' } := by
  have q := PySem.IsL.update e f
  rw [hf] at q
  refine I.write (x := l) (e := l) (by rw [hH]; exact trivial) (.inl rfl) (fun b' u hb hu => (Heap.get?_update_other s.heap (Obj.mapSeq f) (Ne.symm hb)).trans hu) ⟨_, q⟩ ?_
  exact ⟨hz, its', _, hv, q⟩
theorem Inv.lnew {its : List Value} {t' : Nat} (I : Inv X pins σ H s) (hv : Vals ys its) (hz : ys.length ≤ sizeLine) (ht : s.toks ≤ t' := by first | exact Nat.le_refl _ | exact Nat.le_succ _ | assumption | omega) :
    Inv X pins σ (upd H s.heap.objs.size (.lst ys)) { s with heap := s.heap.push { cls := .type "list", data := .seq its.toArray }, toks := t' } :=
  I.laid (fun _ _ q => Heap.get?_push_of_some _ q) (Nat.le_refl _) ⟨hz, its, 0, hv, Heap.get?_push_size _ rfl⟩
theorem Inv.fresh (I : Inv X pins σ H s) : H s.heap.objs.size = none := I.hok.fresh (Nat.le_refl _)
theorem Inv.lstM (I : Inv X pins σ H s) (hH : H l = some (.lst xs)) : xs.length ≤ sizeLine ∧ ∃ (its : List Value) (n : Nat), Vals xs its ∧ xs.length = its.length ∧ s.heap.get? l = some { cls := .type "list", data := .seq its.toArray n } := by
  obtain ⟨z, its, n, r, e⟩ := I.hok l _ hH
  exact ⟨z, its, n, r, r.length, e⟩

theorem notLongL {n : Nat} (h : n ≤ sizeLine) : Builtin.List.listTooLong n = false := by
  unfold Builtin.List.listTooLong
  exact decide_eq_false (by omega)
end

section
variable {X : Cx}

/-! ### methods -/
def rAppend : V → List V → Hp → VK → Prop := fun x vs H Q => ∃ l xs y, x = .ref l ∧ vs = [y] ∧ H l = some (.lst xs) ∧ xs.length < sizeLine ∧ Q .non (upd H l (.lst (xs ++ [y])))
theorem mt_append : MtM X "list.append" rAppend := by
  intro pins s σ H x vs v us Q I rx rv h
  obtain ⟨l, xs, y, rfl, rfl, hH, hz, q⟩ := h
  cases rx
  obtain ⟨u, rfl, ru⟩ := rv.one
  obtain ⟨z, its, n, r, hl, e⟩ := I.lstM hH
  refine call_meets F.slot_list_append ⟨_, e, rfl⟩ F.entry_list_append (F.args_list_append_2 _ _) (PySem.list_append l its.toArray n u (by rw [List.size_toArray]; omega)) ⟨e, ?_⟩
  refine ⟨.non, _, I.lset (its' := its ++ [u]) hH e (by simp) (r.append (.cons ru .nil)) ?_, rfl, q⟩
  rw [List.length_append, List.length_singleton]
  omega

def rExtend : V → List V → Hp → VK → Prop := fun x vs H Q => ∃ l b xs zs, x = .ref l ∧ vs = [.ref b] ∧ H l = some (.lst xs) ∧ H b = some (.lst zs) ∧ xs.length + zs.length ≤ sizeLine ∧ Q .non (upd H l (.lst (xs ++ zs)))
theorem mt_extend : MtM X "list.extend" rExtend := by
  intro pins s σ H x vs v us Q I rx rv h
  obtain ⟨l, b, xs, zs, rfl, rfl, hH, hB, hz, q⟩ := h
  cases rx
  obtain ⟨u, rfl, ru⟩ := rv.one
  cases ru
  obtain ⟨z, its, n, r, hl, e⟩ := I.lstM hH
  obtain ⟨z2, its2, n2, r2, hl2, e2⟩ := I.lstM hB
  have hsz : its.toArray.size + its2.toArray.size ≤ sizeLine := by rw [List.size_toArray, List.size_toArray]; omega
  have hlong : ¬ (!its.toArray.isEmpty && Builtin.List.listTooLong (its.toArray.size + its2.toArray.size)) = true := by
    rw [notLongL hsz, Bool.and_false]
    exact Bool.false_ne_true
  refine call_meets F.slot_list_extend ⟨_, e, rfl⟩ F.entry_list_extend (F.args_list_extend_2 _ _)
    (AutoSeq1.list_extend_list_list_0 l its.toArray n b its2.toArray n2 hlong (by rw [List.size_toArray]; omega) (by omega)) ⟨e, e2, ?_⟩
  refine ⟨.non, _, I.lset (its' := its ++ its2) hH e (by simp) (r.append r2) ?_, rfl, q⟩
  rw [List.length_append]
  omega

def rPop : V → List V → Hp → VK → Prop := fun x vs H Q => ∃ l xs y, x = .ref l ∧ vs = [] ∧ H l = some (.lst xs) ∧ xs[xs.length - 1]? = some y ∧ Q y (upd H l (.lst xs.dropLast))
theorem mt_pop : MtM X "list.pop" rPop := by
  intro pins s σ H x vs v us Q I rx rv h
  obtain ⟨l, xs, y, rfl, rfl, hH, hy, q⟩ := h
  cases rx
  have hus := rv.zero
  subst hus
  obtain ⟨z, its, n, r, hl, e⟩ := I.lstM hH
  obtain ⟨u, hu, ru⟩ := r.get hy
  have hy' : its.toArray[its.toArray.size - 1]? = some u := by
    show its.toArray[its.length - 1]? = some u
    rw [← Array.getElem?_toList, ← hl]
    exact hu
  refine call_meets F.slot_list_pop ⟨_, e, rfl⟩ F.entry_list_pop (F.args_list_pop_1 _) (MeetsSeq.list_pop_last l its.toArray n u hy' (by rw [List.size_toArray]; omega)) ⟨e, ?_⟩
  refine ⟨y, _, I.lset (its' := its.dropLast) hH e ?_ r.dropLast ?_, ru, q⟩
  · show its.toArray.eraseIdxIfInBounds (its.toArray.size - 1) = its.dropLast.toArray
    rw [List.size_toArray, List.eraseIdxIfInBounds_toArray, erase_last]
  · rw [List.length_dropLast]
    omega

def rPopAt : V → List V → Hp → VK → Prop := fun x vs H Q => ∃ l xs i k y, x = .ref l ∧ vs = [.int i] ∧ H l = some (.lst xs) ∧ -(2 ^ 63) ≤ i ∧ i < 2 ^ 63 ∧ seqIndex? i xs.length = some k ∧ xs[k]? = some y ∧ Q y (upd H l (.lst (xs.eraseIdx k)))
theorem mt_popAt : MtM X "list.pop" rPopAt := by
  intro pins s σ H x vs v us Q I rx rv h
  obtain ⟨l, xs, i, k, y, rfl, rfl, hH, h1, h2, hk, hy, q⟩ := h
  cases rx
  obtain ⟨u, rfl, ru⟩ := rv.one
  obtain ⟨t, rfl⟩ := ru
  obtain ⟨z, its, n, r, hl, e⟩ := I.lstM hH
  obtain ⟨w, hw, rw'⟩ := r.get hy
  refine call_meets F.slot_list_pop ⟨_, e, rfl⟩ F.entry_list_pop (F.args_list_pop_2 _ _)
    (MeetsSeq.list_pop_at l its.toArray n i t k w (fitsIndex_both h1 h2) (by rw [List.size_toArray, ← hl]; exact hk) (by rw [← Array.getElem?_toList]; exact hw) (by rw [List.size_toArray]; omega)) ⟨e, ?_⟩
  refine ⟨y, _, I.lset (its' := its.eraseIdx k) hH e ?_ (r.eraseIdx k) ?_, rw', q⟩
  · show its.toArray.eraseIdxIfInBounds k = (its.eraseIdx k).toArray
    rw [List.eraseIdxIfInBounds_toArray]
  · have := len_erase xs k
    omega

def rReverse : V → List V → Hp → VK → Prop := fun x vs H Q => ∃ l xs, x = .ref l ∧ vs = [] ∧ H l = some (.lst xs) ∧ Q .non (upd H l (.lst xs.reverse))
theorem mt_reverse : MtM X "list.reverse" rReverse := by
  intro pins s σ H x vs v us Q I rx rv h
  obtain ⟨l, xs, rfl, rfl, hH, q⟩ := h
  cases rx
  have hus := rv.zero
  subst hus
  obtain ⟨z, its, n, r, hl, e⟩ := I.lstM hH
  refine call_meets F.slot_list_reverse ⟨_, e, rfl⟩ F.entry_list_reverse (F.args_list_reverse_1 _) (AutoSeq1.list_reverse_list_0 l its.toArray n (by rw [List.size_toArray]; omega)) ⟨e, ?_⟩
  refine ⟨.non, _, I.lset (its' := its.reverse) hH e (by simp) r.reverse ?_, rfl, q⟩
  rw [List.length_reverse]
  omega

def rClear : V → List V → Hp → VK → Prop := fun x vs H Q => ∃ l xs, x = .ref l ∧ vs = [] ∧ H l = some (.lst xs) ∧ Q .non (upd H l (.lst []))
theorem mt_clear : MtM X "list.clear" rClear := by
  intro pins s σ H x vs v us Q I rx rv h
  obtain ⟨l, xs, rfl, rfl, hH, q⟩ := h
  cases rx
  have hus := rv.zero
  subst hus
  obtain ⟨z, its, n, r, hl, e⟩ := I.lstM hH
  refine call_meets F.slot_list_clear ⟨_, e, rfl⟩ F.entry_list_clear (F.args_list_clear_1 _) (AutoSeq1.list_clear_list_0 l its.toArray n (by rw [List.size_toArray]; omega)) ⟨e, ?_⟩
  exact ⟨.non, _, I.lset (its' := []) (ys := []) hH e rfl .nil (Nat.zero_le _), rfl, q⟩

/-! ### list + list, list += list, list * int -/
def rCat : R2 := fun x y H Q => ∃ l b xs zs, x = .ref l ∧ y = .ref b ∧ H l = some (.lst xs) ∧ H b = some (.lst zs) ∧ xs.length + zs.length ≤ sizeLine ∧ ∀ p, H p = none → Q (.ref p) (upd H p (.lst (xs ++ zs)))
theorem op_cat : OpR X (binaryOp .Add) rCat := by
  intro pins s σ H x y v u Q I rx ry h
  obtain ⟨l, b, xs, zs, rfl, rfl, hH, hB, hz, q⟩ := h
  cases rx
  cases ry
  obtain ⟨z, its, n, r, hl, e⟩ := I.lstM hH
  obtain ⟨z2, its2, n2, r2, hl2, e2⟩ := I.lstM hB
  refine PySem.P.add_list e e2 ?_ (by rw [List.size_toArray, List.size_toArray]; omega)
  have ea : its.toArray ++ its2.toArray = (its ++ its2).toArray := by simp
  rw [ea]
  exact ⟨.ref _, _, I.lnew (t' := s.toks) (r.append r2) (by rw [List.length_append]; omega), rfl, q _ I.fresh⟩
/-- a list times an int (a negative one is nothing) -/
def rRep : R2 := fun x y H Q => ∃ l k xs, x = .ref l ∧ y = .int k ∧ H l = some (.lst xs) ∧ -(2 ^ 63) ≤ k ∧ k < 2 ^ 63 ∧ xs.length * k.toNat ≤ sizeLine ∧
  ∀ p, H p = none → Q (.ref p) (upd H p (.lst (List.replicate k.toNat xs).flatten))
theorem len_rep {α : Type} (xs : List α) (k : Nat) : (List.replicate k xs).flatten.length = k * xs.length := by
  induction k with
  | zero => simp
  | succ k ih => rw [List.replicate_succ, List.flatten_cons, List.length_append, ih, Nat.succ_mul, Nat.add_comm]
theorem op_rep : OpR X (binaryOp .Mult) rRep := by
  intro pins s σ H x y v u Q I rx ry h
  obtain ⟨l, k, xs, rfl, rfl, hH, h1, h2, hz, q⟩ := h
  cases rx
  obtain ⟨t, rfl⟩ := ry
  obtain ⟨z, its, n, r, hl, e⟩ := I.lstM hH
  have hlen : its.toArray.size * k.toNat ≤ sizeLine := by rw [List.size_toArray, ← hl]; exact hz
  have hcap : ¬ its.toArray.size * k.toNat > (2 ^ 63 - 1) / 8 := by
    have : (sizeLine : Nat) ≤ (2 ^ 63 - 1) / 8 := by decide
    omega
  have hfit : ¬ (!Builtin.List.listFitsIndex k) = true := by
    rw [fitsIndex_both h1 h2]
    exact Bool.false_ne_true
  have hlong : ¬ Builtin.List.listTooLong (its.toArray.size * k.toNat) = true := by
    rw [notLongL hlen]
    exact Bool.false_ne_true
  have hnew : List.foldl (fun x1 x2 => x1 ++ x2) #[] (List.replicate (if its.toArray.isEmpty = true then 0 else k.toNat) its.toArray) = (List.replicate k.toNat its).flatten.toArray := by
    have f0 : ∀ m : Nat, List.foldl (fun x1 x2 => x1 ++ x2) #[] (List.replicate m its.toArray) = (List.replicate m its).flatten.toArray := fun m => by
      have := foldl_rep its m []
      rw [List.nil_append] at this
      exact this
    rw [f0]
    cases its with
    | nil => simp
    | cons a r' => rw [if_neg (by simp)]
  refine wpAny_binaryOp_repeat_ref (T := "list") (U := "int") (by decide) ⟨_, e, rfl⟩ (fun s' => typeIs_int s' k t) noFill_list_mul F.fills_int_mul F.slot_int_rmul repeat_list F.slot_int_index.lookup
    (call_meets F.slot_int_rmul (typeIs_int s k t) F.entry_int_rmul (F.args_int_rmul_2 _ _) (int___rmul___int_list k t l its.toArray n)
      ⟨e, rfl, ⟨_, e, rfl⟩, call_meets F.slot_list_mul ⟨_, e, rfl⟩ F.entry_list_mul (F.args_list_mul_2 _ _) (AutoListH.list___mul___list_int_3 l its.toArray n k t hfit hcap hlong) ⟨e, ?_⟩⟩)
  rw [hnew]
  exact ⟨.ref _, _, I.lnew (t' := s.toks) (r.rep k.toNat) (by rw [len_rep, Nat.mul_comm]; exact hz), rfl, q _ I.fresh⟩

/-! ### del xs[i] -/
theorem del_list {pins : List (Addr × Obj)} {s : Shared} {σ : St} {H : Hp} {l : Addr} {xs : List V} {i : Int} {t : Tok} {k : Nat} {Q : Unit → Shared → Prop} (I : Inv X pins σ H s) (hH : H l = some (.lst xs))
    (h1 : -(2 ^ 63) ≤ i) (h2 : i < 2 ^ 63) (hk : seqIndex? i xs.length = some k) (h : ∀ s', Inv X pins σ (upd H l (.lst (xs.eraseIdx k))) s' → Q () s') :
    wpAny (model X.prog X.w) X.A (delItem (.ref l) (.int i t)) Q X.xe s := by
  obtain ⟨z, its, n, r, hl, e⟩ := I.lstM hH
  refine PySem.P.delItem_list (k := k) e (fitsIndex_both h1 h2) (by rw [List.size_toArray, ← hl]; exact hk) (h _ ?_) (by rw [List.size_toArray]; omega)
  refine I.lset (its' := its.eraseIdx k) (t' := s.toks) hH e ?_ (r.eraseIdx k) ?_
  · show its.toArray.eraseIdxIfInBounds k = (its.eraseIdx k).toArray
    rw [List.eraseIdxIfInBounds_toArray]
  · have := len_erase xs k
    omega
end

/-! ### xs[a:b] = ys -/
section
variable {prog : Program} {w : World} {A : Around} {E : Value → Shared → Prop} {s : Shared}
theorem splice_eq (its its2 : List Value) (a c : Nat) : its.toArray.extract 0 a ++ its2.toArray ++ its.toArray.extract c its.toArray.size = (its.take a ++ its2 ++ its.drop c).toArray := by
  apply Array.toList_inj.mp
  first
    | (simp
       exact List.take_of_length_le (by simp))
    | simp [List.take_of_length_le]
    | simp
theorem bounds_run {a c n : Nat} (hac : a ≤ c) (hc : c ≤ n) : sliceBounds (some (a : Int)) (some (c : Int)) none n = ((a : Int), (c : Int), 1) := by
  simp only [sliceBounds, Option.getD_none]
  have h1 : ¬ ((a : Int) < 0) := by omega
  have h2 : ¬ ((c : Int) < 0) := by omega
  simp only [h1, h2, if_false, show (1 : Int) > 0 by decide, if_true]
  congr 1
  · omega
  · congr 1; omega
set_option maxRecDepth 100000 in
/-- list.__setitem__ with a slice of step one and another list -/
theorem setItem_slice {l b sl : Addr} {items new : Array Value} {n n2 : Nat} {vl vu : Value} {a c : Nat} {Q : Unit → Shared → Prop}
    (e : s.heap.get? l = some { cls := .type "list", data := .seq items n }) (e2 : s.heap.get? b = some { cls := .type "list", data := .seq new n2 }) (hne : l ≠ b)
    (hs : s.heap.IsSliceOf sl vl vu .none) (pl : IsPart vl (some (a : Int))) (pu : IsPart vu (some (c : Int))) (hac : a ≤ c) (hc : c ≤ items.size)
    (hsz : items.size + new.size ≤ sizeLine) (h : Q () { s with heap := s.heap.update l (Obj.mapSeq fun xs => xs.extract 0 a ++ new ++ xs.extract c xs.size) }) :
    wpAny (model prog w) A (setItem (.ref l) (.ref sl) (.ref b)) Q E s := by
  have hl : s.heap.IsList l items := PySem.IsL.isList e
  have hb : s.heap.IsList b new := PySem.IsL.isList e2
  obtain ⟨os, hos, hcs, hds⟩ := id hs
  have hTs : s.TypeIs (.ref sl) "slice" := ⟨os, hos, hcs⟩
  have hstep : ¬ ((rawPart none == rawInt 0) = true) := Bool.false_ne_true
  have hsame : Builtin.List.listSameRef (.ref l) (.ref b) = false := by
    unfold Builtin.List.listSameRef
    exact beq_eq_false_iff_ne.mpr hne
  have hmax : (max (a : Int) (c : Int)).toNat = c := by omega
  have hz' : ((fun xs : Array Value => xs.extract 0 a ++ new ++ xs.extract c xs.size) items).size ≤ sizeLine + 1 := by
    simp only [Array.size_append, Array.size_extract]
    omega
  unfold setItem
  try with_reducible refine wpAny_holding ?_
  first | refine wpAny_bind (wpAny_pure ?_) | skip
  refine wpAny_bind (wpAny_sequenceKey hl.typeIs (by decide) ?_)
  refine wpAny_bind (wpAny_callSpecial?_slot (name := Str.ofString "__setitem__") hl.typeIs slot_list_setitem
    (wpAny_call_entry slot_list_setitem hl.typeIs entry_list_setitem ?_ (args_list_setitem _ _ _)))
  show wpAny _ _ (Builtin.List.listSubscript? (.ref sl) >>= _) _ _ s
  refine wpAny_bind ?_
  unfold Builtin.List.listSubscript?
  refine wpAny_bind (wpAny_specialOf hTs slice_no_index ?_)
  simp only [Option.isNone_none, if_true]
  refine wpAny_pure ?_
  show wpAny _ _ (typeOf (.ref sl) >>= _) _ _ s
  refine wpAny_bind (wpAny_typeOf hTs ?_)
  first
    | rw [if_neg (by decide)]
    | refine PySem.W.KFB.if_not (by decide) ?_
  rw [listSliceParts_eq]
  refine wpAny_bind (wpAny_bind (wpAny_field hos hds (x := .none) rfl (wpAny_bind (wpAny_listPart .none ?_))))
  rw [if_neg hstep]
  refine wpAny_bind (wpAny_field hos hds (x := vl) rfl (wpAny_bind (wpAny_listPart pl ?_)))
  refine wpAny_bind (wpAny_field hos hds (x := vu) rfl (wpAny_bind (wpAny_listPart pu (wpAny_pure ?_))))
  first
    | simp only [hsame, Bool.false_eq_true, if_false]
    | refine PySem.W.KFB.if_not hsame ?_
    | (dsimp only
       rw [if_neg (by rw [hsame]; exact Bool.false_ne_true)])
  refine wpAny_bind (m := Builtin.List.listAllItems (.ref b) "must assign iterable to extended slice") ?_
  unfold Builtin.List.listAllItems
  refine wpAny_bind (wpAny_typeOf hb.typeIs ?_)
  first
    | refine PySem.W.KFB.if_so (by decide) ?_
    | rw [if_pos (by decide)]
    | simp only [beq_self_eq_true, Bool.true_or, if_true]
  unfold Builtin.List.listItems
  refine wpAny_bind (wpAny_seqItems e2 rfl (wpAny_pure ?_))
  refine wpAny_bind (wpAny_bind (wpAny_seqItems e rfl (wpAny_pure ?_)))
  refine wpAny_bind (wpAny_of_eq ((sliceIndices_raw (some (a : Int)) (some (c : Int)) none items.size (by simp)).trans (congrArg (pure : Int × Int × Int → Sem (Int × Int × Int)) (bounds_run hac hc))) ?_)
  show wpAny _ _ (if ((1 : Int) == 1) = true then _ else _) _ _ s
  rw [if_pos (by decide)]
  refine wpAny_bind (wpAny_rule ?_)
  first
    | simp only [notLongL hsz, Bool.false_eq_true, if_false]
    | refine PySem.W.KFB.if_not (notLongL hsz) ?_
  first | refine wpAny_bind (wpAny_pure ?_) | skip
  show wpAny _ _ (updateSeq l (fun xs => xs.extract 0 ((a : Int)).toNat ++ new ++ xs.extract (max (a : Int) (c : Int)).toNat xs.size) >>= _) _ _ s
  rw [hmax, Int.toNat_natCast]
  refine wpAny_bind (wpAny_updateSeq (hz := Nat.le_trans (Nat.le_add_right _ _) hsz) (_hz' := hz') e rfl ?_)
  refine wpAny_bind (wpAny_letGo ?_)
  first
    | exact wpAny_bind (wpAny_pure (wpAny_pure ⟨.none, rfl, wpAny_pure h⟩))
    | exact wpAny_pure ⟨.none, rfl, wpAny_pure h⟩
end

section
variable {X : Cx}
/-- xs[a:c] = ys of another list, at the value level: sl is the slice object that was just made -/
theorem set_slice {pins : List (Addr × Obj)} {s : Shared} {σ : St} {H : Hp} {l b sl : Addr} {xs ys : List V} {a c : Int} {vl vu : Value} {Q : Unit → Shared → Prop} (I : Inv X pins σ H s)
    (hH : H l = some (.lst xs)) (hB : H b = some (.lst ys)) (hne : l ≠ b) (hs : s.heap.IsSliceOf sl vl vu .none) (ra : RelV (.int a) vl) (rc : RelV (.int c) vu) (h0 : 0 ≤ a) (hac : a ≤ c) (hc : c ≤ xs.length)
    (hz : xs.length + ys.length ≤ sizeLine) (h : ∀ s', Inv X pins σ (upd H l (.lst (xs.take a.toNat ++ ys ++ xs.drop c.toNat))) s' → Q () s') :
    wpAny (model X.prog X.w) X.A (setItem (.ref l) (.ref sl) (.ref b)) Q X.xe s := by
  obtain ⟨ta, rfl⟩ := ra
  obtain ⟨tc, rfl⟩ := rc
  obtain ⟨z, its, n, r, hl, e⟩ := I.lstM hH
  obtain ⟨z2, its2, n2, r2, hl2, e2⟩ := I.lstM hB
  obtain ⟨a', rfl⟩ := Int.eq_ofNat_of_zero_le h0
  obtain ⟨c', rfl⟩ := Int.eq_ofNat_of_zero_le (Int.le_trans h0 hac)
  simp only [Int.toNat_natCast] at h
  refine setItem_slice (a := a') (c := c') e e2 hne hs (.int _ _) (.int _ _) (by omega) (by rw [List.size_toArray]; omega) (by rw [List.size_toArray, List.size_toArray]; omega) (h _ ?_)
  refine I.lset (its' := its.take a' ++ its2 ++ its.drop c') (t' := s.toks) hH e ?_ (Vals.append (Vals.append (r.take _) r2) (r.drop _)) ?_
  · exact splice_eq its its2 a' c'
  · rw [List.length_append, List.length_append, List.length_take, List.length_drop]
    omega
end
end L2

namespace Att
open PySem PySem.W PySem.Calls PyProof.Rows

/-! ### the script -/
theorem ints_of_wellAll {P : Params} {h : Heap} : ∀ (ns : List Int) (vs : List Value), WellAll P h vs (ns.map WData.int) → IntsAre vs ns := by
  intro ns
  induction ns with
  | nil =>
    intro vs w
    rw [List.map_nil] at w
    cases w
    exact .nil
  | cons n ns ih =>
    intro vs w
    rw [List.map_cons] at w
    cases w with
    | cons a b =>
      cases a
      exact .cons _ _ (ih _ b)

theorem script_of {l : OpenLaw} {n : Nat} (hn : l.most = some n) {P : Params} {h : Heap} {args : List WData} {vals : List Value}
    (hpre : l.row.toRowW.claim.pre args = true) (hwl : WellAll P h vals args) :
    ∃ a vs ns, vals = [Value.ref a] ∧ args = [WData.list (ns.map WData.int)] ∧ h.get? a = some { cls := .type "list", data := .seq vs.toArray } ∧ IntsAre vs ns ∧ ns.length ≤ n := by
  have hsh : WShape.hasAll [] args [.list .int] = true := (pre_splitW hpre).1
  have hc : l.pre.holds [] { args := args } = true := (pre_splitW hpre).2
  obtain ⟨d, r, rfl, h1, h2⟩ := hasAllW_cons hsh
  obtain rfl := hasAllW_nil h2
  obtain ⟨xs, rfl, h3⟩ := hasW_list h1
  obtain ⟨ns, rfl⟩ := items_int h3
  have hlen : ns.length ≤ n := by
    unfold OpenLaw.pre at hc
    have h4 : (WTm.not (.lt (.lit (.int (n : Int))) (.len (.arg 0)))).holds [] { args := [.list (ns.map .int)] } = true := by
      have h4 := (holds_andW hc).1
      rw [hn] at h4
      exact h4
    have h5 := condW_of h4 (w_not (w_lt w_lit (w_len_list (w_arg rfl))))
    rw [List.length_map] at h5
    refine Nat.le_of_not_lt fun q => ?_
    have q' : (n : Int) < ((ns.length : Nat) : Int) := by omega
    first
      | (rw [decide_eq_true q'] at h5; exact absurd h5 (by decide))
      | (simp at h5; omega)
  cases hwl with
  | cons w1 w2 =>
    cases w2
    cases w1 with
    | list ho hall => exact ⟨_, _, ns, rfl, rfl, ho, ints_of_wellAll ns _ hall, hlen⟩

theorem post_true (l : OpenLaw) (args : List WData) : l.row.toRowW.claim.post args (.bool true) args = true :=
  postW_of (r := l.row.toRowW) (X := (true == true))
    (show WShape.has [] (.bool true) .bool = true by first | rfl | decide | simp [WShape.has, WShape.arms, WShape.armsAll])
    (show (WTm.eq .res (.lit (.bool true))).value [] { args := args, res := some (.bool true), after := args } = some (.bool (true == true)) from w_eq_bool (w_res rfl) w_lit) rfl

/-! ### the attachment: holds_open's last premise (the goal 'hc' behind k_head) from a wpAny of the law's body -/
theorem attach {l : OpenLaw} {n : Nat} {q : Program} {loose : List Str} {XP : (Str → Option Value) → Heap → Prop} {YP : World → Heap → Prop} {d : DefRec} {x : Str}
    (hn : l.most = some n) (hdf : d.params.defaults = [])
    (hbind : ∀ pm cd doc v : Value, bindArgs (docDef d.name d.params d.body d.scope pm cd doc) ⟨[v], []⟩ = pure [(x, v)])
    (hx : d.scope.names.lookup x = some .local ∨ d.scope.names.lookup x = some .cell)
    (hk : d.scope.kind = .function) (hco : d.scope.isCoroutine = false) (hgen : d.scope.isGenerator = false)
    (body : ∀ (w : World) (s₀ s₁ s : Shared) (mg mb : Str → Option Value) (fa : Addr) (o : Obj) (pm cd doc : Value) (a : Addr) (vs : List Value) (ns : List Int),
      Ground q loose [] XP w s₀ mg mb s₁.heap → YP w s₁.heap →
      s₁.heap.get? fa = some o → o.data = .func (docDef d.name d.params d.body d.scope pm cd doc) → s₁.heap.CodeRec cd d.name → mg d.name = some (.ref fa) →
      s₁.heap.get? a = some { cls := .type "list", data := .seq vs.toArray } → IntsAre vs ns → ns.length ≤ n →
      s.gens = #[] → s.os = s₁.os →
      Fr s₁.heap s₁.heap.objs.size s.heap (bindL (envOfC d.name d.scope s₁.heap.objs.size fa cd).kindOf [(x, .ref a)] fun _ => none) →
      Cl s₁.heap.objs.size (cellsFrom (s₁.heap.objs.size + 1) d.scope.names []) s.heap (bindC (envOfC d.name d.scope s₁.heap.objs.size fa cd).kindOf [(x, .ref a)] fun _ => none) →
      wpAny (model l.prog w) (callerA.deeper (envOfC d.name d.scope s₁.heap.objs.size fa cd)) (execs d.body (envOfC d.name d.scope s₁.heap.objs.size fa cd))
        (fun f s' => f = .ret (.bool true) ∧ OldK s₁.heap s'.heap ∧ s'.os = s₁.os ∧ AllBare s'.gens) (fun _ _ => False) s) :
    WalkO q loose XP YP l.row.toRowW d [] (fun f vs => PySem.call f vs) := by
  intro w s₀ s₁ mg mb G Y fa o pm cd doc dV kV ho hd hcd hD hmg hg args vals as hpre hlay hrd hwl hlo
  obtain rfl : dV = .none := Dflts.none hD hdf
  obtain rfl : kV = .none := Dflts.noKw hD
  obtain ⟨a, vs, ns, rfl, rfl, hobj, hints, hlen⟩ := script_of hn hpre hwl
  refine enter_call ?_
  refine call_cells_ret (o := o) (by rw [depth_caller]; decide) ho (fd_plain hd) G.T.nolimit hcd (hbind pm cd doc (.ref a)) (fun y hy => ?_) (fun h₁ tk F X => ?_) hco hgen hk
  · obtain rfl : y = (x, Value.ref a) := List.mem_singleton.mp hy
    rcases hx with e | e
    · exact .inl e
    · exact .inr ⟨e, cellsFrom_some _ _ _ (.inl e)⟩
  · refine wpAny_mono (body w s₀ s₁ { s₁ with heap := h₁, toks := tk } mg mb fa o pm cd doc a vs ns G Y ho (fd_plain hd) hcd hmg hobj hints hlen hg rfl F X) (fun f s' hq => ?_) (fun _ _ hq => hq)
    obtain ⟨rfl, h2, h3, h4⟩ := hq
    exact ⟨.inl ⟨.bool true, .bool true, [], rfl, fun _ => rfl, .bool true, post_true l _, fun _ => ⟨List.Pairwise.nil, fun _ hm => (nomatch hm)⟩⟩, h2, h3, h4⟩

/-- the same from a codeAny of the CALL (for a layer whose function contracts speak of calls) -/
theorem attach_call {l : OpenLaw} {n : Nat} {q : Program} {loose : List Str} {XP : (Str → Option Value) → Heap → Prop} {YP : World → Heap → Prop} {d : DefRec}
    (hn : l.most = some n) (hdf : d.params.defaults = [])
    (call : ∀ (w : World) (s₀ s₁ : Shared) (mg mb : Str → Option Value) (fa : Addr) (o : Obj) (pm cd doc : Value) (a : Addr) (vs : List Value) (ns : List Int),
      Ground q loose [] XP w s₀ mg mb s₁.heap → YP w s₁.heap →
      s₁.heap.get? fa = some o → o.data = .func (docDef d.name d.params d.body d.scope pm cd doc) → s₁.heap.CodeRec cd d.name → mg d.name = some (.ref fa) →
      s₁.heap.get? a = some { cls := .type "list", data := .seq vs.toArray } → IntsAre vs ns → ns.length ≤ n → s₁.gens = #[] →
      codeAny (model l.prog w) callerA (.call (.ref fa) ⟨[.ref a], []⟩) (fun r s' => r = .ok (.ret (.bool true)) ∧ OldK s₁.heap s'.heap ∧ s'.os = s₁.os ∧ AllBare s'.gens) s₁) :
    WalkO q loose XP YP l.row.toRowW d [] (fun f vs => PySem.call f vs) := by
  intro w s₀ s₁ mg mb G Y fa o pm cd doc dV kV ho hd hcd hD hmg hg args vals as hpre hlay hrd hwl hlo
  obtain rfl : dV = .none := Dflts.none hD hdf
  obtain rfl : kV = .none := Dflts.noKw hD
  obtain ⟨a, vs, ns, rfl, rfl, hobj, hints, hlen⟩ := script_of hn hpre hwl
  refine enter_call (codeAny_mono (call w s₀ s₁ mg mb fa o pm cd doc a vs ns G Y ho (fd_plain hd) hcd hmg hobj hints hlen hg) fun r s' hq => ?_)
  obtain ⟨rfl, h2, h3, h4⟩ := hq
  exact ⟨.inl ⟨.bool true, .bool true, [], rfl, fun _ => rfl, .bool true, post_true l _, fun _ => ⟨List.Pairwise.nil, fun _ hm => (nomatch hm)⟩⟩, h2, h3, h4⟩

/-- the same where the top left finished generators (o_head chose holds_openN): nothing may have changed at all and no generator may be left -/
theorem attachN {l : OpenLaw} {n : Nat} {q : Program} {loose : List Str} {XP : (Str → Option Value) → Heap → Prop} {YP : World → Heap → Prop} {d : DefRec} {x : Str}
    (hn : l.most = some n) (hdf : d.params.defaults = [])
    (hbind : ∀ pm cd doc v : Value, bindArgs (docDef d.name d.params d.body d.scope pm cd doc) ⟨[v], []⟩ = pure [(x, v)])
    (hx : d.scope.names.lookup x = some .local ∨ d.scope.names.lookup x = some .cell)
    (hk : d.scope.kind = .function) (hco : d.scope.isCoroutine = false) (hgen : d.scope.isGenerator = false)
    (body : ∀ (w : World) (s₀ s₁ s : Shared) (mg mb : Str → Option Value) (fa : Addr) (o : Obj) (pm cd doc : Value) (a : Addr) (vs : List Value) (ns : List Int),
      Ground q loose [] XP w s₀ mg mb s₁.heap → YP w s₁.heap →
      s₁.heap.get? fa = some o → o.data = .func (docDef d.name d.params d.body d.scope pm cd doc) → s₁.heap.CodeRec cd d.name → mg d.name = some (.ref fa) →
      s₁.heap.get? a = some { cls := .type "list", data := .seq vs.toArray } → IntsAre vs ns → ns.length ≤ n →
      s.gens = #[] → s.os = s₁.os →
      Fr s₁.heap s₁.heap.objs.size s.heap (bindL (envOfC d.name d.scope s₁.heap.objs.size fa cd).kindOf [(x, .ref a)] fun _ => none) →
      Cl s₁.heap.objs.size (cellsFrom (s₁.heap.objs.size + 1) d.scope.names []) s.heap (bindC (envOfC d.name d.scope s₁.heap.objs.size fa cd).kindOf [(x, .ref a)] fun _ => none) →
      wpAny (model l.prog w) (callerA.deeper (envOfC d.name d.scope s₁.heap.objs.size fa cd)) (execs d.body (envOfC d.name d.scope s₁.heap.objs.size fa cd))
        (fun f s' => f = .ret (.bool true) ∧ (∀ b o, s₁.heap.get? b = some o → s'.heap.get? b = some o) ∧ s'.os = s₁.os ∧ s'.gens = #[]) (fun _ _ => False) s) :
    WalkN q loose XP YP l.row.toRowW d [] (fun f vs => PySem.call f vs) := by
  intro w s₀ s₁ mg mb G Y fa o pm cd doc dV kV ho hd hcd hD hmg hg args vals as hpre hlay hrd hwl hlo
  obtain rfl : dV = .none := Dflts.none hD hdf
  obtain rfl : kV = .none := Dflts.noKw hD
  obtain ⟨a, vs, ns, rfl, rfl, hobj, hints, hlen⟩ := script_of hn hpre hwl
  refine enter_callW ?_
  refine call_cells_ret (o := o) (by rw [depth_caller]; decide) ho (fd_plain hd) G.T.nolimit hcd (hbind pm cd doc (.ref a)) (fun y hy => ?_) (fun h₁ tk F X => ?_) hco hgen hk
  · obtain rfl : y = (x, Value.ref a) := List.mem_singleton.mp hy
    rcases hx with e | e
    · exact .inl e
    · exact .inr ⟨e, cellsFrom_some _ _ _ (.inl e)⟩
  · refine wpAny_mono (body w s₀ s₁ { s₁ with heap := h₁, toks := tk } mg mb fa o pm cd doc a vs ns G Y ho (fd_plain hd) hcd hmg hobj hints hlen hg rfl F X) (fun f s' hq => ?_) (fun _ _ hq => hq)
    obtain ⟨rfl, h2, h3, h4⟩ := hq
    exact ⟨.inl ⟨.bool true, .bool true, [], rfl, fun _ => rfl, .bool true, post_true l _, fun _ => ⟨List.Pairwise.nil, fun _ hm => (nomatch hm)⟩⟩, h2, h3, h4⟩

/-! ### rules over ANY heap (no ledger) from facts about the written part K: the library's own take a ledger (News) for what they write -/
section
variable {prog : Program} {w : World} {A : Around} {E : Value → Shared → Prop} {s : Shared} {K : Frag}

/-- a def of the module, or a method (qual 'C.m'), entered: the frame is the next address; cells behind it -/
theorem call_fn {R : Result → Shared → Prop} {name qual : Str} {params : Arguments} {body : List Stmt} {scope : Scope} {dV kV doc pm cdv ct oc : Value} {an od : Option Addr} {osl : Array (Option Value)} {f : Addr} {args : Args} {binds : List (Str × Value)}
    (X : K.In s.heap) (hlim : s.heap.NoLimit) (ho : K.lookup f = some ⟨oc, od, .func (fnOf name qual params body scope dV kV doc pm an cdv ct), osl⟩) (hcd : codeIn K cdv qual = true) (hroom : A.depth < recursionLimit)
    (hbind : BindsTo s (fnOf name qual params body scope dV kV doc pm an cdv ct) args binds)
    (hkind : (binds.all fun y => scope.names.lookup y.1 == some .local || scope.names.lookup y.1 == some .cell) = true)
    (h : ∀ s₁, InCallC s s.heap.objs.size (bindL (envOfC qual scope s.heap.objs.size f cdv).kindOf binds fun _ => none) (cellsFrom (s.heap.objs.size + 1) scope.names [])
        (bindC (envOfC qual scope s.heap.objs.size f cdv).kindOf binds fun _ => none) s₁ →
      wpAny (model prog w) (A.deeper (envOfC qual scope s.heap.objs.size f cdv)) (execs body (envOfC qual scope s.heap.objs.size f cdv))
        (fun fl s' => R (.ok (.ret (match fl with | .ret v => v | _ => .none))) s')
        (fun e s' => wpAny (model prog w) (A.deeper (envOfC qual scope s.heap.objs.size f cdv)) (leaving (envOfC qual scope s.heap.objs.size f cdv) e) (fun _ s'' => R (.error e) s'') (fun e' s'' => R (.error e') s'') s') s₁)
    (hco : scope.isCoroutine = false) (hgen : scope.isGenerator = false) (hk : scope.kind = .function) : codeAny (model prog w) A (.call (.ref f) args) R s := by
  refine codeAny_call_function hroom (X _ _ ho) rfl hco hgen rfl (codeRec_of X hcd) (hbind _ _ _ _ ?_)
  refine wpAny_newFunctionEnv_cells hk (kindsX hkind _) fun env he s₁ x => ?_
  subst he
  exact ⟨hlim.keeps x.toInCall.keep, codeAny_func (h s₁ x)⟩

/-- C(..): dict at size, instance at size + 1, then __init__ -/
theorem make_obj {R : Result → Shared → Prop} {C fI : Addr} {rest : List Value} {kw : List (Str × Value)}
    (X : K.In s.heap) (hm : makesIn K C = true) (hi : findIn K (.ref C) "__init__" = some (some (.ref fI))) (hf : isFn K (.ref fI) = true)
    (h : codeAny (model prog w) (A.under (.builtin "type.__call__" ⟨.ref C :: rest, kw⟩)) (.call (.ref fI) ⟨.ref (s.heap.objs.size + 1) :: rest, kw⟩) (InitBack (s.heap.objs.size + 1) R)
      { s with heap := (s.heap.push emptyDict).push (instObj C s.heap.objs.size) }) : codeAny (model prog w) A (.call (.ref C) ⟨rest, kw⟩) R s := by
  obtain ⟨hh, g, d, t, os⟩ := s
  exact make_core (makes_of X hm) (looks_findIn X hi) (fun self => bind_fn X self (beq_iff_eq.mp hf)) (.inl rfl) h

/-- x.name where the instance's dict holds the name and the class does not -/
theorem get_field {x C : Addr} {ox : Obj} {es : List DictEntry} {n : Nat} {name : Str} {expr : Bool} {v : Value} {Q : Value → Shared → Prop}
    (X : K.In s.heap) (I : PySem.W.InstAt s.heap x ox C (some (dictOf es n))) (hg : plainGet K C name = true) (hh : hasDictIn K C = true) (ha : findIn K (.ref C) name = some none)
    (hl : getL name es = some (some v)) (hv : handedIn v = true) (h : Q v { s with toks := s.toks + 1 }) : wpAny (model prog w) A (getAttr (.ref x) name expr) Q E s :=
  get_value X I (plainGet_of hg).1 (findObj_own hh ha rfl hl) hv h

/-- x.m(..): the method found in the class -/
theorem get_method {x C f : Addr} {ox : Obj} {es : List DictEntry} {n : Nat} {name : Str} {pl : Sem Bool} {Q : Value × List Value → Shared → Prop}
    (X : K.In s.heap) (I : PySem.W.InstAt s.heap x ox C (some (dictOf es n))) (hg : plainGet K C name = true) (hf : findIn K (.ref C) name = some (some (.ref f))) (ht : isFn K (.ref f) = true)
    (hl : getL name es = some none) (h : Q (.ref f, [.ref x]) s) : wpAny (model prog w) A (getMethod (.ref x) name pl) Q E s :=
  method_fn X I (plainGet_of hg).1 (plainGet_of hg).2 hf (beq_iff_eq.mp ht) (by show (lookIn name (dictOf es n)).map _ = _; rw [lookIn_dict, hl]; rfl) h

/-! the whole heap as the ledger: makes every rule that writes through a ledger a rule over any heap -/
def noObjs (h : Heap) : Heap := { h with objs := #[] }
theorem noObjs_get (h : Heap) (b : Addr) : (noObjs h).get? b = none := by
  cases e : (noObjs h).get? b with
  | none => rfl
  | some o => exact absurd (Heap.lt_size e) (Nat.not_lt_zero _)
def ledger (h : Heap) (L d : Addr) : List (Addr × Obj) := (List.range h.objs.size).filterMap fun a => if a = L ∨ a = d then none else (h.get? a).map fun o => (a, o)
theorem mem_ledger {h : Heap} {L d a : Addr} {o : Obj} : (a, o) ∈ ledger h L d ↔ a ≠ L ∧ a ≠ d ∧ h.get? a = some o := by
  unfold ledger
  rw [List.mem_filterMap]
  constructor
  · rintro ⟨b, _, e⟩
    split at e
    · cases e
    · rename_i hb
      obtain ⟨o', ho, e'⟩ := Option.map_eq_some_iff.mp e
      cases e'
      exact ⟨fun q => hb (.inl q), fun q => hb (.inr q), ho⟩
  · rintro ⟨n1, n2, ho⟩
    refine ⟨a, List.mem_range.mpr (Heap.lt_size ho), ?_⟩
    rw [if_neg (show ¬ (a = L ∨ a = d) from fun q => q.elim n1 n2), ho] <;> rfl
theorem news_ledger {h : Heap} {L d : Addr} {od : Obj} (hne : d ≠ L) (ho : h.get? d = some od) : News (noObjs h) L h ([] ++ (d, od) :: ledger h L d) := by
  rintro ⟨a, o⟩ hp
  rcases List.mem_cons.mp hp with e | hp
  · cases e
    exact ⟨ho, hne, noObjs_get _ _⟩
  · obtain ⟨n1, n2, e⟩ := mem_ledger.mp hp
    exact ⟨e, n1, noObjs_get _ _⟩
theorem fr_all {h : Heap} {L : Addr} {m : Str → Option Value} (n : h.Ns L m) : Fr (noObjs h) L h m :=
  ⟨n, fun b o e => (by rw [noObjs_get] at e; cases e), Nat.zero_le _⟩
/-- Upd of the head entry (for append_K, setItem_K ..) -/
theorem upd_ledger {h : Heap} {L d : Addr} {o o' : Obj} : Upd d o o' ((d, o) :: ledger h L d) ((d, o') :: ledger h L d) :=
  .head fun ⟨_, _⟩ hp => (mem_ledger.mp hp).2.1

/-- x.name = v over any heap: L is any namespace of the heap (the frame's, say): its map stays, its object is not told; all else but the dict stays -/
theorem set_field {x C dx L : Addr} {ox : Obj} {m : Str → Option Value} {es es' : List DictEntry} {n n' : Nat} {name : Str} {v : Value} {Q : Unit → Shared → Prop}
    (X : K.In s.heap) (I : PySem.W.InstAt s.heap x ox C (some (dictOf es n))) (hd : ox.dict = some dx) (hL : s.heap.Ns L m) (hne : dx ≠ L)
    (hs : findIn K (.ref C) "__setattr__" = some (some (.builtin "object.__setattr__"))) (hp : plainOver K C = true) (ht : takerIn K C name = some none) (hh : hasDictIn K C = true) (hl : (getL name es).isSome = true)
    (e : (putL name (PyData.keyHash w.params name) (.str name (s.toks + 1)) v es, putN name es n) = (es', n')) (hz : es'.length ≤ 1000)
    (h : ∀ h' : Heap, h'.Ns L m → h'.get? dx = some (dictOf es' n') → (∀ b o, b ≠ dx → b ≠ L → s.heap.get? b = some o → h'.get? b = some o) → Q () { s with heap := h', toks := s.toks + 2 }) :
    wpAny (model prog w) A (setAttr (.ref x) name v) Q E s := by
  obtain ⟨e1, e2⟩ := Prod.mk.inj e
  have hdx : s.heap.get? dx = some (dictOf es n) := by
    have := I.dict
    rw [hd] at this
    exact this
  refine set_plain X I hs (osa_dict (s := { s with toks := s.toks + 1 }) (h₀ := noObjs s.heap) (L := L) (m := m) (od := dictOf es n) (od' := dictOf es' n') (es := es') (n := n') (pre := []) (post := ledger s.heap L dx)
    (fr_all hL) (news_ledger hne hdx) X I hd hp ht hh hl (fun _ q => nomatch q) (fun ⟨_, _⟩ q => (mem_ledger.mp q).2.1) (by rw [putName_dict, e1, e2]) rfl hz fun h' F' N' => ?_)
  exact h h' F'.ns (N'.get (List.Mem.head _)) fun b o n1 n2 ho => N'.get (List.Mem.tail _ (mem_ledger.mpr ⟨n2, n1, ho⟩))
end
end Att

namespace L2
open PySem PySem.Spec PyProof.Rows

theorem vals_ints : ∀ {vs : List Value} {ns : List Int}, IntsAre vs ns → Vals (ns.map V.int) vs
  | _, _, .nil => .nil
  | _, _, .cons n t h => .cons ⟨t, rfl⟩ (vals_ints h)

/-- nothing is tracked but the script, known to the object (or it is an object of the module) -/
def Only (H : Hp) : Prop := ∀ b, H b = none ∨ ∃ o xs, H b = some (.frz o (.lst xs))

/-- THE HEAD: the law's promise, at the heap behind the top. F, the promise of the law's def, may use that base is part of the heap (so K.In base, base.Ns mainGlobals mg stand in Mod) -/
theorem law_call {P : Program} {w : World} {K : PySem.W.Frag} {mg mb : Str → Option Value} {CX : CXT} {k : Nat} {fa a : Addr} {fd : FuncData} {x : Str} {sp : Sp} {s₁ : Shared} {vs : List Value} {ns : List Int}
    (KX : K.In s₁.heap) (hns : s₁.heap.Ns mainGlobals mg) (hb : s₁.heap.Ns builtinsNs mb) (hbb : ∀ x : Str, x ≠ "__name__" → mb x = bootBuiltins x) (hlim : s₁.heap.NoLimit) (hg : s₁.gens = #[])
    (ha : s₁.heap.get? a = some { cls := .type "list", data := .seq vs.toArray }) (hi : IntsAre vs ns) (hl : ns.length ≤ sizeLine) (hr : Room k callerA)
    (F : ∀ base : Heap, K.In base → base.Ns mainGlobals mg → FnOk P w K mg base CX k fa fd [x] sp) (hbind : ∀ (s : Shared) (u : Value), BindsTo s fd ⟨[u], []⟩ [(x, u)])
    (hsp : ∀ H : Hp, Only H → SqL K H a (ns.map V.int) → sp [.ref a] H (fun v _ => v = .bl true) fun _ _ _ => False)
    (hCX : ∀ H e s', CX [] H s₁ (fun _ _ _ => False) e s' → False) :
    codeAny (model P w) callerA (.call (.ref fa) ⟨[.ref a], []⟩) (fun r s' => r = .ok (.ret (.bool true)) ∧ OldK s₁.heap s'.heap ∧ s'.os = s₁.os ∧ AllBare s'.gens) s₁ := by
  have rv := vals_ints hi
  have lenV := hi.length
  -- from an abstract heap in which nothing but the script may be tracked
  have core : ∀ H : Hp, H.clk = 0 → Only H → SqL K H a (ns.map V.int) → HOk P w H s₁.heap → (∀ b, H b ≠ none → b = a) → (H a ≠ none → K.lookup a = none) →
      codeAny (model P w) callerA (.call (.ref fa) ⟨[.ref a], []⟩) (fun r s' => r = .ok (.ret (.bool true)) ∧ OldK s₁.heap s'.heap ∧ s'.os = s₁.os ∧ AllBare s'.gens) s₁ := by
    intro H hz0 hO hS hok hA hK
    have base_of : ∀ {b : Addr} {o : Obj}, s₁.heap.get? b = some o → H b = none → (hidT s₁.heap H).get? b = some o := fun e n => hidT_get e n
    have noA : ∀ {b : Addr} {o : Obj} {es : Array DictEntry} {ep : Nat}, s₁.heap.get? b = some o → o.data = .dict es ep → H b = none := fun {b o es ep} e d => by
      cases q : H b with
      | none => rfl
      | some u =>
        have e' : b = a := hA b (by rw [q]; simp)
        subst e'
        rw [ha] at e; cases e
        have d' : Data.seq vs.toArray _ = Data.dict es ep := d
        cases d'
    have nsK : ∀ {b : Addr} {m : Str → Option Value}, s₁.heap.Ns b m → (hidT s₁.heap H).Ns b m := fun {b m} ⟨o, es, ep, e, d, r⟩ => ⟨o, es, ep, base_of e (noA e d), d, r⟩
    have hKb : K.In (hidT s₁.heap H) := fun b o e => base_of (KX b o e) (by
      cases q : H b with
      | none => rfl
      | some u =>
        have e' : b = a := hA b (by rw [q]; simp)
        subst e'
        rw [hK (by rw [q]; simp)] at e; cases e)
    have hM : Mod K mg (hidT s₁.heap H) := ⟨hKb, nsK hns, ⟨mb, nsK hb, hbb⟩, let ⟨mc, h1, h2⟩ := hlim; ⟨mc, nsK h1, h2⟩⟩
    have e0 : Env0 P w K mg (hidT s₁.heap H) callerA [] s₁ H := ⟨rfl, hM, fun b o e => of_hidT e, Nat.le_of_eq (hidT_size _ _), trivial, fun b hb => absurd (show b ∈ ([] : List Addr) from hb) (by simp), hok, ⟨.of_eq hg, by rw [hz0]; exact Nat.zero_le _⟩⟩
    refine codeAny_mono ((F _ hKb (nsK hns)).run callerA [] s₁ H ⟨[.ref a], []⟩ [.ref a] [.ref a] _ _ hr e0 (hbind s₁ (.ref a)) (.cons rfl .nil) (hsp H hO hS)) fun r s' h => ?_
    cases r with
    | error e => exact (hCX H e s' h).elim
    | ok fl =>
      cases fl with
      | next => exact False.elim h
      | brk => exact False.elim h
      | cont => exact False.elim h
      | ret u =>
        obtain ⟨v, H', os, bare, un, hok', r', q⟩ := h
        have q' : v = .bl true := q
        subst q'
        obtain rfl : u = Value.bool true := r'
        refine ⟨rfl, OldK.of_keep fun b o e => ?_, os, bare.1⟩
        cases q : H b with
        | none => exact un.keep b o e q (by intro z; exact absurd (show b ∈ ([] : List Addr) from z) (by simp)) (by simp)
        | some u =>
          rcases hO b with z | ⟨ob, xs, z⟩
          · rw [q] at z; cases z
          · have z2 := un.frzs b ob _ z
            obtain ⟨e1, _⟩ := hok b _ z
            obtain ⟨e2, _⟩ := hok' b _ z2
            rw [e] at e1; cases e1
            exact e2
  cases hk : K.lookup a with
  | some o =>
    -- the script is one of the module's own objects
    have e := KX a o hk
    rw [ha] at e
    cases e
    refine core ⟨fun _ => none, 0⟩ rfl (fun _ => .inl rfl) (.inr ⟨_, vs.toArray, _, hk, rfl, rfl, rfl, by rw [List.size_toArray, lenV]; exact hl, by simpa using rv, fun x a n z => by simp at z⟩) (fun b u z => by have z' : (none : Option HO) = some u := z; cases z') (fun b z => absurd rfl z) fun z => absurd rfl z
  | none =>
    refine core ⟨fun b => if b = a then some (.frz { cls := .type "list", data := .seq vs.toArray } (.lst (ns.map V.int))) else none, 0⟩ rfl (fun b => ?_) (.inl (.inr ⟨{ cls := .type "list", data := .seq vs.toArray }, if_pos rfl⟩)) (fun b u z => ?_) (fun b z => ?_) fun _ => hk
    · by_cases hb : b = a
      · exact .inr ⟨_, _, if_pos hb⟩
      · exact .inl (if_neg hb)
    · by_cases hb : b = a
      · have z' := (if_pos hb).symm.trans z
        cases z'
        subst hb
        exact ⟨ha, by rw [List.length_map]; exact hl, vs, _, rv, ha⟩
      · have z' := (if_neg hb).symm.trans z
        cases z'
    · by_cases hb : b = a
      · exact hb
      · exact absurd (if_neg hb) z
end L2

namespace L2
open PySem PySem.Spec PyProof.Rows

abbrev KOf {K : PySem.W.Frag} {h : Heap} (_ : K.In h) : PySem.W.Frag := K

/-- the goal that k_head leaves (case hc), from the law's promise. F gives the function object fd (K's own) once, then the promise over every base -/
theorem walk_of {l : PySem.W.OpenLaw} {n k : Nat} {q : Program} {loose : List Str} {XP : (Str → Option Value) → Heap → Prop} {YP : World → Heap → Prop} {d : DefRec} {K : Params → PySem.W.Frag} {CX : World → CXT} {sp : World → Sp} {x : Str}
    (hn : l.most = some n) (hn2 : n ≤ sizeLine) (hdf : d.params.defaults = []) (hr : Room k callerA)
    (hY : ∀ (w : World) (h : Heap), YP w h → (K w.params).In h)
    (F : ∀ (w : World) (mg : Str → Option Value) (fa : Addr) (h : Heap), (K w.params).In h → h.Ns mainGlobals mg → mg d.name = some (.ref fa) →
      ∃ fd : FuncData, (∀ (s : Shared) (u : Value), BindsTo s fd ⟨[u], []⟩ [(x, u)]) ∧
        ∀ base : Heap, (K w.params).In base → base.Ns mainGlobals mg → FnOk l.prog w (K w.params) mg base (CX w) k fa fd [x] (sp w))
    (hsp : ∀ (w : World) (H : Hp) (a : Addr) (ns : List Int), ns.length ≤ n → Only H → SqL (K w.params) H a (ns.map V.int) → sp w [.ref a] H (fun v _ => v = .bl true) fun _ _ _ => False)
    (hCX : ∀ (w : World) (H : Hp) (s : Shared) (e : Value) (s' : Shared), CX w [] H s (fun _ _ _ => False) e s' → False) :
    PySem.W.WalkO q loose XP YP l.row.toRowW d [] (fun f vs => PySem.call f vs) := by
  refine Att.attach_call hn hdf fun w s₀ s₁ mg mb fa o pm cd doc a vs ns G Y ho hd hcd hmg hobj hints hlen hg => ?_
  have KX := hY w _ Y
  obtain ⟨fd, hb, hF⟩ := F w mg fa _ KX G.T.g hmg
  exact law_call KX G.T.g G.T.b G.T.builtins G.T.nolimit hg hobj hints (Nat.le_trans hlen hn2) hr hF hb (fun H hO hS => hsp w H a ns hlen hO hS) fun H e s' => hCX w H s₁ e s'
/-- the same where the promise hangs on the written part alone: (sp := My.sp_law), no hole under a binder -/
theorem walk_ofK {l : PySem.W.OpenLaw} {n k : Nat} {q : Program} {loose : List Str} {XP : (Str → Option Value) → Heap → Prop} {YP : World → Heap → Prop} {d : DefRec} {K : Params → PySem.W.Frag} {CX : CXT} {sp : PySem.W.Frag → Sp} {x : Str}
    (hn : l.most = some n) (hn2 : n ≤ sizeLine) (hdf : d.params.defaults = []) (hr : Room k callerA)
    (hY : ∀ (w : World) (h : Heap), YP w h → (K w.params).In h)
    (F : ∀ (w : World) (mg : Str → Option Value) (fa : Addr) (h : Heap), (K w.params).In h → h.Ns mainGlobals mg → mg d.name = some (.ref fa) →
      ∃ fd : FuncData, (∀ (s : Shared) (u : Value), BindsTo s fd ⟨[u], []⟩ [(x, u)]) ∧
        ∀ base : Heap, (K w.params).In base → base.Ns mainGlobals mg → FnOk l.prog w (K w.params) mg base CX k fa fd [x] (sp (K w.params)))
    (hsp : ∀ (K : PySem.W.Frag) (H : Hp) (a : Addr) (ns : List Int), ns.length ≤ n → Only H → SqL K H a (ns.map V.int) → sp K [.ref a] H (fun v _ => v = .bl true) fun _ _ _ => False)
    (hCX : ∀ (H : Hp) (s : Shared) (e : Value) (s' : Shared), CX [] H s (fun _ _ _ => False) e s' → False) :
    PySem.W.WalkO q loose XP YP l.row.toRowW d [] (fun f vs => PySem.call f vs) :=
  walk_of (K := K) (CX := fun _ => CX) (sp := fun w => sp (K w.params)) hn hn2 hdf hr hY F (fun w H a ns h1 h2 h3 => hsp (K w.params) H a ns h1 h2 h3) fun _ H s e s' => hCX H s e s'
end L2

/- THE LAST THEOREM (shape; LID, My.* are yours):
   My.Adr: a structure of the addresses that your layer names (classes, functions); My.Txt K t: a structure (Prop) of the equations over K;
   My.txt_mk : {K} {implicit addresses ..} (e1 : nsIn K mainGlobals "law" = some (some (.ref f))) (e2 : K.lookup f = some ⟨oc, od, .func (fnOf "law" "law" params body scope dV kV doc pm an cdv ct), sl⟩) (e3 : codeIn K cdv "law" = true) .. : ∃ t, My.Txt K t

set_option maxRecDepth 100000 in
set_option maxHeartbeats 0 in
theorem PySem.Challenge.cw_LID_holds : PySem.Challenge.rw_LID.Holds := by
  w_on; o_law; k_head; (case hw => w_witness2)
  k_fill
  refine L2.walk_of (l := PySem.Challenge.rw_LID) (n := 63) (k := 40) (x := "script") (CX := fun w => ..) (sp := fun _ => My.sp_law) rfl (by decide) rfl ⟨rfl, by decide, by decide⟩ (fun w h Y => PySem.W.kIn_of Y) ?F ?S ?C
  case F =>
    intro w mg fa h KX G hmg
    have T : ∃ t, My.Txt (L2.KOf KX) t := by
      dsimp only [L2.KOf]                          -- K must stand as «<heap const> w.params» for k_is
      refine' My.txt_mk ?e1 ?e2 ?e3 ..
      (case e1 => PySem.W.k_is)                    -- in the order: a name -> its address -> its object -> its parts
      (case e2 => PySem.W.k_is)
      ..
    obtain ⟨t, T⟩ := T
    have e0 := hmg.symm.trans (PySem.W.mg_of KX G T.law)
    cases e0                                       -- fa is the law's own address
    exact ⟨_, fun s u => .of_eq rfl, fun base kb nb => My.law_fn T kb nb⟩     -- if «.of_eq rfl» comes too early: refine' ⟨_, ?b, fun base kb nb => My.law_fn T kb nb⟩; exact fun s u => .of_eq rfl
  case S => exact fun w H a ns hl hO hS => ..
  case C => exact ..
(the tactic k_is has no namespace: write k_is) -/

/-! SHORT WORDS over the layer: a def of the text, its body, what a loop and a test want. -/
namespace L2
open PySem PySem.Spec PyProof.Rows

/-! ### the text by places -/
/-- the j-th statement of a class's body -/
def inClass (s : Stmt) (j : Nat) : Stmt := match s with
  | .ClassDef _ _ _ body _ _ _ _ _ _ _ => body.getD j (.Pass ⟨0, 0, 0, 0⟩)
  | _ => .Pass ⟨0, 0, 0, 0⟩
def defArgs (s : Stmt) : Arguments := match s with
  | .FunctionDef _ a _ _ _ _ _ _ _ _ => a
  | _ => { posonlyargs := [], args := [], vararg := none, kwonlyargs := [], kw_defaults := [], kwarg := none, defaults := [] }
def defBody (s : Stmt) : List Stmt := match s with
  | .FunctionDef _ _ b _ _ _ _ _ _ _ => b
  | _ => []
def defScope (s : Stmt) : Scope := match s with
  | .FunctionDef _ _ _ _ _ _ sc _ _ _ => sc
  | _ => { kind := .function, names := [], isGenerator := false, isCoroutine := false }

/-! ### no exception leaves a def -/
abbrev CX0 : CXT := fun _ _ _ _ _ _ => False
abbrev E0 : XK := fun _ _ _ => False
theorem pass0 {X : Cx} : Passes CX0 X E0 := fun _ _ _ _ _ _ _ h => h.elim

/-! ### a def (or method) of the text as it stands behind the top -/
structure Fun (K : PySem.W.Frag) (x qual : Str) (st : Stmt) (f : Addr) (fd : FuncData) : Prop where
  ex : ∃ (oc : Value) (od : Option Addr) (kV doc pm : Value) (an : Option Addr) (cdv ct : Value) (osl : Array (Option Value)),
    fd = PySem.W.fnOf x qual (defArgs st) (defBody st) (defScope st) .none kV doc pm an cdv ct ∧ K.lookup f = some ⟨oc, od, .func fd, osl⟩ ∧ PySem.W.codeIn K cdv qual = true
  kp : PySem.W.keepIn K (.ref f) = true
section
variable {P : Program} {w : World} {K : PySem.W.Frag} {mg : Str → Option Value} {base : Heap}
/-- THE RULE for a def: its body as a term of rules, and the reading of that term -/
theorem Fun.ok {x qual : Str} {st : Stmt} {f : Addr} {fd : FuncData} {N ps : List Str} {k : Nat} {sp : Sp} (F : Fun K x qual st f fd) (S : FnScope N ps (defScope st)) (len : ∀ vs H Q E, sp vs H Q E → vs.length = ps.length)
    (hbody : ∀ (cdv : Value) (A : Around) (outer : List Env) (s : Shared) (H : Hp) (vs : List V) (Q : VK) (E : XK), Room k (A.deeper (envOfC qual (defScope st) s.heap.objs.size f cdv)) → sp vs H Q E →
      ∃ t, PSs (cxOf CX0 P w K mg base N qual (defScope st) f cdv A outer s H E).nox (defBody st) t ∧ t { nx := fun _ H' => Q .non H', rt := Q } (start N vs) H) : FnOk P w K mg base CX0 (k + 1) f fd ps sp := by
  obtain ⟨oc, od, kV, doc, pm, an, cdv, ct, osl, rfl, lk, hcd⟩ := F.ex
  refine fn_of lk hcd S len fun A outer s H vs Q E hr hsp => ?_
  obtain ⟨t, h, q⟩ := hbody cdv A outer s H vs Q E hr hsp
  exact ⟨t, h.nox, q⟩
/-- how its arguments bind (no defaults): h is «fun _ _ _ _ _ _ us hl => match us, hl with | [_, _], _ => rfl», one _ a parameter -/
theorem Fun.binds {x qual : Str} {st : Stmt} {f : Addr} {fd : FuncData} {ps : List Str} (F : Fun K x qual st f fd)
    (h : ∀ (kV doc pm : Value) (an : Option Addr) (cdv ct : Value) (us : List Value), us.length = ps.length → bindArgs (PySem.W.fnOf x qual (defArgs st) (defBody st) (defScope st) .none kV doc pm an cdv ct) ⟨us, []⟩ = pure (ps.zip us)) : Binds K fd ps [] := by
  obtain ⟨oc, od, kV, doc, pm, an, cdv, ct, osl, rfl, lk, hcd⟩ := F.ex
  exact .all (h kV doc pm an cdv ct)
theorem fun_mk {x qual : Str} {st : Stmt} {f : Addr} {oc : Value} {od an : Option Addr} {osl : Array (Option Value)} {kV doc pm cdv ct : Value} (l : K.lookup f = some ⟨oc, od, .func (PySem.W.fnOf x qual (defArgs st) (defBody st) (defScope st) .none kV doc pm an cdv ct), osl⟩)
    (c : PySem.W.codeIn K cdv qual = true) (k : PySem.W.keepIn K (.ref f) = true) : Fun K x qual st f (PySem.W.fnOf x qual (defArgs st) (defBody st) (defScope st) .none kV doc pm an cdv ct) := ⟨⟨oc, od, kV, doc, pm, an, cdv, ct, osl, rfl, l, c⟩, k⟩
end
theorem hu_of {A : Around} {k : Nat} (hr : Room k A) : A.units + 1 < cLine := Nat.lt_of_le_of_lt (Nat.add_le_add_left (by decide : 1 ≤ 64) _) hr.units
theorem small1000 {n : Nat} (h : n ≤ 1000) : n < sizeLine := Nat.lt_of_le_of_lt h (by decide)

/-! ### expressions in short: the name that stands in the i-th slot -/
section
variable {X : Cx}
theorem pv (i : Nat) {x : Str} {pos : Pos} (hN : X.N[i]? = some x := by rfl) (hv : Vis X.env.scope x := by first | exact Or.inl rfl | exact Or.inr (Or.inl rfl) | exact Or.inr (Or.inr rfl)) (hd : (x == ("__debug__" : Str)) = false := by decide)
    (hcd : (x == ("__classdict__" : Str)) = false := by decide) : PE X (.Name x pos) (tVar i) := pe_var hN hv hd hcd
end

/-! ### tests -/
theorem iteF {A B : Prop} (h : B) : if false = true then A else B := by
  rw [if_neg Bool.false_ne_true]
  exact h
theorem iteT {A B : Prop} (h : A) : if true = true then A else B := by
  rw [if_pos rfl]
  exact h
theorem ite2 {c A B : Prop} [Decidable c] (h1 : c → A) (h2 : ¬ c → B) : if c then A else B := by
  by_cases h : c
  · rw [if_pos h]
    exact h1 h
  · rw [if_neg h]
    exact h2 h
theorem iteNS {c A B : Prop} [Decidable c] (hc : c) (h : B) : if (!decide c) = true then A else B := by
  rw [decide_eq_true hc]
  exact iteF h

/-! ### heaps -/
/-- all that was tracked is as it was -/
structure Same (H H' : Hp) : Prop where
  tr : ∀ b o, H b = some o → H' b = some o
  ck : H.clk ≤ H'.clk
instance {H H' : Hp} : CoeFun (Same H H') (fun _ => ∀ b o, H b = some o → H' b = some o) := ⟨Same.tr⟩
theorem Same.refl (H : Hp) : Same H H := ⟨fun _ _ h => h, Nat.le_refl _⟩
theorem Same.trans {H H1 H2 : Hp} (a : Same H H1) (b : Same H1 H2) : Same H H2 := ⟨fun c o h => b c o (a c o h), Nat.le_trans a.ck b.ck⟩
theorem Same.free {H H' : Hp} (e : Same H H') {l : Addr} (h : H' l = Option.none) : H l = Option.none := by
  cases q : H l with
  | none => rfl
  | some o =>
    rw [e l o q] at h
    cases h
theorem Same.seq {K : PySem.W.Frag} {H H' : Hp} {a : Addr} {xs : List V} (e : Same H H') (h : SqL K H a xs) : SqL K H' a xs := by
  rcases h with (h | ⟨o, h⟩) | h
  · exact .inl (.inl (e _ _ h))
  · exact .inl (.inr ⟨o, e _ _ h⟩)
  · exact .inr h

end L2

set_option maxHeartbeats 4000000
namespace L2
open PySem PySem.Spec PyProof.Rows

/-! ## ExtA: list comprehensions, texts walked sign by sign, enumerate over a text -/

/-! ### what a block takes from the frame around it -/
theorem close_over (env : Env) : ∀ (l : List (Str × NameKind)) (cs : List (Str × Addr)), (∀ x, (x, NameKind.free) ∈ l → ∃ c, env.cells.lookup x = some c) →
    (∀ x c, cs.lookup x = some c → env.cells.lookup x = some c) →
    ∃ cl : List (Str × Addr), (forIn l cs fun (p : Str × NameKind) (r : List (Str × Addr)) =>
        if (p.2 == NameKind.free) = true then (do let a ← cellOf env p.1; pure (ForInStep.yield ((p.1, a) :: r)) : Sem (ForInStep (List (Str × Addr)))) else pure (ForInStep.yield r)) = (pure cl : Sem (List (Str × Addr))) ∧
      (∀ x c, cl.lookup x = some c → env.cells.lookup x = some c) ∧ (∀ x, (x, NameKind.free) ∈ l → ∃ c, cl.lookup x = some c) ∧ ∀ x c, cs.lookup x = some c → ∃ c', cl.lookup x = some c'
  | [], cs, _, h2 => ⟨cs, rfl, h2, (fun _ z => by cases z), (fun _ c e => ⟨c, e⟩)⟩
  | (n, k) :: r, cs, h1, h2 => by
    cases hk : (k == NameKind.free) with
    | false =>
      obtain ⟨cl, e, a, b, c⟩ := close_over env r cs (fun x hx => h1 x (List.mem_cons_of_mem _ hx)) h2
      refine ⟨cl, ?_, a, fun x hx => ?_, c⟩
      · rw [List.forIn_cons, if_neg (by show ¬ ((k == NameKind.free) = true); rw [hk]; exact Bool.false_ne_true)]
        exact e
      · rcases List.mem_cons.mp hx with z | z
        · cases z
          exact absurd hk (by decide)
        · exact b x z
    | true =>
      have hk' : k = NameKind.free := eq_of_beq hk
      subst hk'
      obtain ⟨a0, ea⟩ := h1 n List.mem_cons_self
      have h2' : ∀ x c, ((n, a0) :: cs).lookup x = some c → env.cells.lookup x = some c := fun x c e => by
        rw [List.lookup_cons] at e
        cases hx : x == n with
        | true =>
          rw [hx] at e
          have e' : some a0 = some c := e
          rw [eq_of_beq hx, ea, e']
        | false =>
          rw [hx] at e
          exact h2 x c e
      obtain ⟨cl, e, a, b, c⟩ := close_over env r ((n, a0) :: cs) (fun x hx => h1 x (List.mem_cons_of_mem _ hx)) h2'
      refine ⟨cl, ?_, a, fun x hx => ?_, fun x c0 e0 => ?_⟩
      · rw [List.forIn_cons, if_pos (by show (NameKind.free == NameKind.free) = true; decide)]
        have ec : cellOf env n = (pure a0 : Sem Addr) := by unfold cellOf; rw [ea]
        show ((do let a ← cellOf env n; pure (ForInStep.yield ((n, a) :: cs)) : Sem (ForInStep (List (Str × Addr)))) >>= _) = _
        rw [ec]
        exact e
      · rcases List.mem_cons.mp hx with z | z
        · cases z
          exact c n a0 (by rw [List.lookup_cons]; simp)
        · exact b x z
      · by_cases hx : (x == n) = true
        · exact c x a0 (by rw [List.lookup_cons, hx])
        · exact c x c0 (by rw [List.lookup_cons, Bool.eq_false_iff.mpr hx]; exact e0)
theorem closed {scope : Scope} {env : Env} (h : ∀ x, (x, NameKind.free) ∈ scope.names → ∃ c, env.cells.lookup x = some c) :
    ∃ cl, closureFor scope env = pure cl ∧ (∀ x c, cl.lookup x = some c → env.cells.lookup x = some c) ∧ ∀ x, (x, NameKind.free) ∈ scope.names → ∃ c, cl.lookup x = some c := by
  obtain ⟨cl, e, a, b, _⟩ := close_over env scope.names [] h (fun x c z => by cases z)
  refine ⟨cl, ?_, a, b⟩
  unfold closureFor
  show (forIn scope.names [] _ >>= _) = _
  first
    | exact (congrArg (· >>= _) e)
    | (rw [show (forIn scope.names ([] : List (Str × Addr)) _ : Sem (List (Str × Addr))) = pure cl from e]; rfl)

/-- is the block's scope of the form: its own names, and names of the frame around it that lie in cells. xN: the names around, N: the block's (k own ones first), fr: where the others stand in xN -/
def blkB (xN : List Str) (xsc sc : Scope) (N : List Str) (k : Nat) (fr : List Nat) : Bool :=
  decide (sc.kind = .function) && sc.names.all (fun p => !(p.2 == .cell) && (!(p.2 == .local) || (sc.names.lookup p.1 == some .local)) && (!(p.2 == .free) || (xsc.names.lookup p.1 == some .cell || xsc.names.lookup p.1 == some .free)))
    && decide (N.length = k + fr.length) && (List.range fr.length).all (fun j => match fr[j]? with
      | some i => (match xN[i]? with
        | some x => decide (N[k + j]? = some x) && (sc.names.lookup x == some .free)
        | none => false)
      | none => false)
structure Blk (xN : List Str) (xsc sc : Scope) (N : List Str) (k : Nat) (fr : List Nat) : Prop where
  kind : sc.kind = .function
  cell : ∀ p ∈ sc.names, p.2 ≠ .cell
  own : ∀ p ∈ sc.names, p.2 = .local → sc.names.lookup p.1 = some .local
  free : ∀ x, (x, NameKind.free) ∈ sc.names → xsc.names.lookup x = some .cell ∨ xsc.names.lookup x = some .free
  len : N.length = k + fr.length
  at_ : ∀ j i, fr[j]? = some i → ∃ x, xN[i]? = some x ∧ N[k + j]? = some x ∧ sc.names.lookup x = some .free
theorem blk_of {xN : List Str} {xsc sc : Scope} {N : List Str} {k : Nat} {fr : List Nat} (h : blkB xN xsc sc N k fr = true) : Blk xN xsc sc N k fr := by
  unfold blkB at h
  rw [Bool.and_eq_true, Bool.and_eq_true, Bool.and_eq_true] at h
  obtain ⟨⟨⟨h1, h2⟩, h3⟩, h4⟩ := h
  have h2' := List.all_eq_true.mp h2
  refine ⟨of_decide_eq_true h1, fun p hp z => ?_, fun p hp z => ?_, fun x hx => ?_, of_decide_eq_true h3, fun j i e => ?_⟩
  · have q := h2' p hp
    rw [z] at q
    simp at q
  · have q := h2' p hp
    rw [z] at q
    simpa using q
  · have q := h2' _ hx
    simpa using q
  · have hj : j < fr.length := (List.getElem?_eq_some_iff.mp e).1
    have q := List.all_eq_true.mp h4 j (List.mem_range.mpr hj)
    rw [e] at q
    dsimp only at q
    cases ex : xN[i]? with
    | none =>
      rw [ex] at q
      cases q
    | some x =>
      rw [ex] at q
      dsimp only at q
      rw [Bool.and_eq_true] at q
      exact ⟨x, rfl, of_decide_eq_true q.1, by simpa using q.2⟩

theorem relabel_free {env : Env} : ∀ {names : List (Str × NameKind)} {x : Str}, names.lookup x = some .free →
    (names.map fun (n, k) => if (k == NameKind.free && env.scope.kind == .function && env.kindOf n == some .cell) then (n, NameKind.cell) else (n, k)).lookup x = some .cell ∨
    (names.map fun (n, k) => if (k == NameKind.free && env.scope.kind == .function && env.kindOf n == some .cell) then (n, NameKind.cell) else (n, k)).lookup x = some .free
  | [], _, h => by cases h
  | (n, k) :: r, x, h => by
    have ih := @relabel_free env r x
    rw [List.lookup_cons] at h
    show List.lookup x ((if (k == NameKind.free && env.scope.kind == .function && env.kindOf n == some .cell) = true then (n, NameKind.cell) else (n, k)) :: _) = _ ∨ List.lookup x ((if (k == NameKind.free && env.scope.kind == .function && env.kindOf n == some .cell) = true then (n, NameKind.cell) else (n, k)) :: _) = _
    cases hx : x == n with
    | true =>
      rw [hx] at h
      have h' : some k = some NameKind.free := h
      cases h'
      split
      · left; rw [List.lookup_cons, hx]
      · right; rw [List.lookup_cons, hx]
    | false =>
      rw [hx] at h
      have q := ih h
      split
      · rw [List.lookup_cons, hx]; exact q
      · rw [List.lookup_cons, hx]; exact q
theorem relabel_back {env : Env} : ∀ {names : List (Str × NameKind)} {x : Str}, (∀ p ∈ names, p.2 ≠ NameKind.cell) →
    ((names.map fun (n, k) => if (k == NameKind.free && env.scope.kind == .function && env.kindOf n == some .cell) then (n, NameKind.cell) else (n, k)).lookup x = some .cell ∨
    (names.map fun (n, k) => if (k == NameKind.free && env.scope.kind == .function && env.kindOf n == some .cell) then (n, NameKind.cell) else (n, k)).lookup x = some .free) → (x, NameKind.free) ∈ names
  | [], _, _, h => by rcases h with h | h <;> cases h
  | (n, k) :: r, x, hc, h => by
    have ih := @relabel_back env r x (fun p hp => hc p (List.mem_cons_of_mem _ hp))
    have hk : k ≠ NameKind.cell := hc (n, k) List.mem_cons_self
    have h' : List.lookup x ((if (k == NameKind.free && env.scope.kind == .function && env.kindOf n == some .cell) = true then (n, NameKind.cell) else (n, k)) :: (r.map fun (n, k) => if (k == NameKind.free && env.scope.kind == .function && env.kindOf n == some .cell) then (n, NameKind.cell) else (n, k))) = some .cell ∨
        List.lookup x ((if (k == NameKind.free && env.scope.kind == .function && env.kindOf n == some .cell) = true then (n, NameKind.cell) else (n, k)) :: (r.map fun (n, k) => if (k == NameKind.free && env.scope.kind == .function && env.kindOf n == some .cell) then (n, NameKind.cell) else (n, k))) = some .free := h
    cases hx : x == n with
    | true =>
      have ex : x = n := eq_of_beq hx
      split at h'
      · rename_i z
        rw [Bool.and_eq_true, Bool.and_eq_true] at z
        have ek : k = NameKind.free := eq_of_beq z.1.1
        rw [ex, ek]
        exact List.mem_cons_self
      · rw [List.lookup_cons, hx] at h'
        rcases h' with q | q
        · exact absurd (Option.some.inj q) hk
        · have ek : k = NameKind.free := Option.some.inj q
          rw [ex, ek]
          exact List.mem_cons_self
    | false =>
      refine List.mem_cons_of_mem _ (ih ?_)
      split at h'
      · rw [List.lookup_cons, hx] at h'; exact h'
      · rw [List.lookup_cons, hx] at h'; exact h'

/-! ### the block's context -/
def Cx.blk (X : Cx) (N : List Str) (scope : Scope) (cl : List (Str × Addr)) (C : Addr) (fp : List Addr) (s : Shared) (H : Hp) : Cx where
  prog := X.prog
  w := X.w
  K := X.K
  mg := X.mg
  base := X.base
  A := X.A
  N := N
  s₀ := s
  H₀ := H
  env := compEnvC scope cl C X.env
  outer := X.stack
  stack := X.stack
  ex := fp
  fn := fun _ => false
  calm := X.calm
  pn := []
  xe := fun _ _ => False

/-- the block's names at its start: its own are none, the others are as around -/
def blk0 (k : Nat) (fr : List Nat) (σ : St) : St := List.replicate k none ++ fr.map fun i => (σ[i]?).join

theorem blk_start {X : Cx} {pins : List (Addr × Obj)} {σ : St} {H : Hp} {s s4 : Shared} {N : List Str} {scope : Scope} {cl : List (Str × Addr)} {k : Nat} {fr : List Nat} {fp : List Addr} {C D : Addr}
    (B : Blk X.N X.env.scope scope N k fr) (I : Inv X pins σ H s) (hf : ∀ b ∈ fp, FpOk X pins H b) (hobj : ∀ b ∈ fp, ∃ o, s.heap.get? b = some o)
    (c1 : ∀ x c, cl.lookup x = some c → X.env.cells.lookup x = some c) (c2 : ∀ x, (x, NameKind.free) ∈ scope.names → ∃ c, cl.lookup x = some c)
    (hos : s4.os = s.os) (hg : Bar (upd H D (.lst [])) s4.gens s4.toks) (hC : s.heap.objs.size ≤ C) (hD : s.heap.objs.size ≤ D) (hCD : D ≠ C) (kp : ∀ b o, s.heap.get? b = some o → s4.heap.get? b = some o)
    (hns : s4.heap.Ns C fun _ => none) (hl : s4.heap.get? D = some { cls := .type "list", data := .seq #[] }) :
    Inv (X.blk N scope cl C fp s H) [] (blk0 k fr σ) (upd H D (.lst [])) s4 := by
  have hDn : H D = none := I.hok.fresh hD
  have hCn : H C = none := I.hok.fresh hC
  have ne2 : ∀ b ∈ fp, b ≠ C := fun b hb z => by
    obtain ⟨o, e⟩ := hobj b hb
    have q := Nat.lt_of_lt_of_le (Heap.lt_size e) hC
    rw [z] at q
    exact Nat.lt_irrefl _ q
  have cltC : ∀ x c, cl.lookup x = some c → c < s.heap.objs.size := fun x c e => by
    obtain ⟨v, z⟩ := I.cell x c (c1 x c e)
    exact z.lt
  have ok : (X.blk N scope cl C fp s H).Ok :=
    { mod := I.ok.mod
      kind := B.kind
      glob := I.ok.glob
      blt := I.ok.blt
      above := hC
      inj := fun x y c e1 e2 => I.ok.inj x y c (c1 x c e1) (c1 y c e2)
      has := fun x hx => c2 x (relabel_back B.cell hx)
      cab := fun x c z _ => absurd (show false = true from z) Bool.false_ne_true
      hd := I.ok.hd
      frames := I.ok.frames
      stk := .inl rfl
      exf := fun b hb => ⟨ne2 b hb, fun x c e => (hf b hb).2.2.2.2.1 x c (c1 x c e)⟩
      bs := I.bs
      bsz := Nat.le_trans I.ok.bsz I.sz
      noex := fun b o e hb => by
        rcases (hf b hb).2.2.2.1 with z | z
        · exact I.ok.noex b o e z
        · exact Nat.lt_irrefl _ (Nat.lt_of_lt_of_le (Heap.lt_size e) (Nat.le_trans I.ok.bsz z))
      exfs := fun b hb z => by
        obtain ⟨f0, f1, f2, _⟩ := hf b hb
        rcases List.mem_cons.mp (I.stkSub b z) with q | q
        · exact f1 q
        · exact f2 q
      funs := I.stack
      frf := I.stkFree }
  refine ⟨ok, hos, hg, Un.laid kp hD hDn, ⟨_, hns, fun i x v e1 e2 e3 => ?_⟩, fun x c e => ?_, ?_, fun x c e => ?_, fun p hp => absurd (show p ∈ ([] : List (Addr × Obj)) from hp) (by simp), I.hok.laid kp hD ⟨Nat.zero_le _, [], 0, .nil, hl⟩, ?_⟩
  · -- the names from around
    unfold blk0 at e2
    by_cases hik : i < k
    · rw [List.getElem?_append_left (by simpa using hik), List.getElem?_replicate] at e2
      split at e2 <;> cases e2
    · rw [List.getElem?_append_right (by simpa using hik), List.length_replicate, List.getElem?_map] at e2
      cases ej : fr[i - k]? with
      | none =>
        rw [ej] at e2
        cases e2
      | some i0 =>
        rw [ej] at e2
        have e2' : (σ[i0]?).join = some v := by simpa using e2
        obtain ⟨y, hy, hyN, hyf⟩ := B.at_ _ _ ej
        have ek : k + (i - k) = i := by omega
        rw [ek] at hyN
        have e1' : N[i]? = some x := e1
        rw [e1'] at hyN
        cases hyN
        have eσ : σ[i0]? = some (some v) := by
          cases q : σ[i0]? with
          | none => rw [q] at e2'; cases e2'
          | some u =>
            rw [q] at e2'
            have : u = some v := by simpa using e2'
            rw [this]
        obtain ⟨m, _, hloc⟩ := I.loc
        have hxf := B.free x (PySem.mem_of_lookup hyf)
        have hvis : Vis X.env.scope x := .inr hxf
        obtain ⟨u, ru, lk⟩ := hloc i0 x v hy eσ hvis
        refine ⟨u, ru, .inr ⟨relabel_free hyf, ?_⟩⟩
        rcases lk with ⟨z, _⟩ | ⟨_, c, ec, zc⟩
        · have z' : X.env.scope.names.lookup x = some .local := z
          rcases hxf with q | q
          · rw [q] at z'; cases z'
          · rw [q] at z'; cases z'
        · obtain ⟨c', ec'⟩ := c2 x (PySem.mem_of_lookup hyf)
          have : c = c' := Option.some.inj (ec.symm.trans (c1 x c' ec'))
          subst this
          exact ⟨c, ec', zc.keeps kp⟩
  · obtain ⟨v, z⟩ := I.cell x c (c1 x c e)
    exact ⟨v, z.keeps kp⟩
  · show upd H D (.lst []) C = none
    rw [upd_ne hCD.symm]
    exact hCn
  · have hne : c ≠ D := fun z => by
      have q := Nat.lt_of_lt_of_le (cltC x c e) hD
      rw [z] at q
      exact Nat.lt_irrefl _ q
    rw [upd_ne hne]
    exact I.freeC x c (c1 x c e)
  · show (blk0 k fr σ).length = N.length
    unfold blk0
    rw [List.length_append, List.length_replicate, List.length_map, B.len]

/-! ### the tests of a clause -/
def PTs (X : Cx) (ifs : List Expr) (t : TT) : Prop :=
  ∀ (pins : List (Addr × Obj)) (s : Shared) (σ : St) (H : Hp) (Q : Bool → Hp → Prop), Inv X pins σ H s → t σ H Q →
    wpAny (model X.prog X.w) X.A (forIn ifs true fun c r => if r = true then do let ok ← isTrue c X.env (eval c X.env); pure (ForInStep.yield ok) else pure (ForInStep.yield r)) (TP X pins σ Q) X.xe s
def tYes : TT := fun _ H Q => Q true H
theorem pts_nil {X : Cx} : PTs X [] tYes := fun _ _ _ H _ I h => wpAny_tests_nil ⟨H, I, h⟩
theorem pts_one {X : Cx} {c : Expr} {t : TT} (h : PT X c t) : PTs X [c] t := fun pins s σ H Q I q => wpAny_tests_one (h pins s σ H Q I q)

/-! ### the loop of a comprehension, whatever its target -/
theorem comp_loop {prog : Program} {w : World} {A : Around} {R : Result → Shared → Prop} {s : Shared} {elt tgt iter : Expr} {ifs : List Expr} {scope : Scope} {pos : Pos} {it acc : Value} {env : Env} (J : Nat → Shared → Prop)
    (turn : ∀ n s, J n s → wpAny (model prog w) A (pyNext it) (fun r s1 => match r with
      | none => R (.ok .next) s1
      | some v => wpAny (model prog w) A (letOwnedTupleGo tgt it v) (fun _ s2 => wpAny (model prog w) A (assign tgt env v) (fun _ s3 =>
          wpAny (model prog w) A (forIn ifs true fun c r => if r = true then do let ok ← isTrue c env (eval c env); pure (ForInStep.yield ok) else pure (ForInStep.yield r)) (fun ok s4 =>
            if ok = true then wpAny (model prog w) A (eval elt env) (fun x s5 =>
              wpAny (model prog w) A (call (.builtin "list.append") [acc, x]) (fun _ s6 => ∃ m, m < n ∧ J m s6) (fun _ _ => False) s5) (fun _ _ => False) s4
            else ∃ m, m < n ∧ J m s4) (fun _ _ => False) s3) (fun _ _ => False) s2) (fun _ _ => False) s1) (fun _ _ => False) s)
    (n : Nat) (h : J n s) :
    codeAny (model prog w) A (.compLoop (.ListComp elt [⟨tgt, iter, ifs, 0⟩] scope pos) 0 it acc env) R s := by
  refine codeAny_loop rfl J (fun n' s' hJ => ?_) n h
  show wpAny _ A ((compTurn (.ListComp elt [⟨tgt, iter, ifs, 0⟩] scope pos) 0 it acc env).onRaise (fun e => do noteFrame e env; theTreesLotGoes e)) _ _ s'
  refine wpAny_noted ?_
  rw [compTurn_list]
  refine wpAny_bind (wpAny_standAt (wpAny_bind (wpAny_mono (turn n' s' hJ) (fun r s1 h1 => ?_) fun _ _ z => z.elim)))
  cases r with
  | none => exact wpAny_pure h1
  | some v =>
    refine wpAny_bind (wpAny_mono h1 (fun _ s2 h2 => ?_) fun _ _ z => z.elim)
    refine wpAny_bind (wpAny_mono h2 (fun _ s3 h3 => wpAny_bind (wpAny_mono h3 (fun ok s4 h4 => ?_) fun _ _ z => z.elim)) fun _ _ z => z.elim)
    cases ok with
    | false => exact wpAny_pure ⟨rfl, h4⟩
    | true =>
      exact wpAny_bind (wpAny_bind (wpAny_mono h4 (fun x s5 h5 => wpAny_bind (wpAny_mono h5 (fun _ s6 h6 => wpAny_pure (wpAny_pure ⟨rfl, h6⟩)) fun _ _ z => z.elim)) fun _ _ z => z.elim))

/-! ### the reading of a comprehension -/
/-- W: the word by the turn and a measure, over the block's names and the heap, in which the new list stands at D -/
def CompW (J : It) (k : Nat) (fr : List Nat) (g : TG) (tt : TT) (te : TE) (σ : St) (H1 : Hp) (D : Addr) (Q : VK) : Prop := ∃ W : Nat → Nat → St → Hp → Prop, (∃ m, W 0 m (blk0 k fr σ) (upd H1 D (.lst []))) ∧
  ∀ i m τ H, W i m τ H → (J.stop i H ∧ Q (.ref D) H) ∨ (J.go i H ∧ ∃ N : St → Hp → Prop, (∀ τ' H', N τ' H' → ∃ m', m' < m ∧ W (i + 1) m' τ' H') ∧ ∀ x H', J.yld i H x H' →
    g x τ H' fun τ2 H2 => tt τ2 H2 fun b H3 => if b = true then te τ2 H3 fun y H4 => ∃ ys, H4 D = some (.lst ys) ∧ ys.length < sizeLine ∧ N τ2 (upd H4 D (.lst (ys ++ [y]))) else N τ2 H3)
def tComp (wi : TI) (k : Nat) (fr : List Nat) (g : TG) (tt : TT) (te : TE) : TE := fun σ H Q => wi σ H fun J H1 => ∀ D, H1 D = none → CompW J k fr g tt te σ H1 D Q

theorem wp_comp {X : Cx} {pins : List (Addr × Obj)} {σ : St} {H : Hp} {s : Shared} {elt tgt iter : Expr} {ifs : List Expr} {scope : Scope} {pos pos' : Pos} {N : List Str} {k : Nat} {fr : List Nat} {wi : TI} {g : TG} {tt : TT} {te : TE}
    {use : Option (Value → Sem Unit)} {R : VK} {Qv : Value → Shared → Prop}
    (B : Blk X.N X.env.scope scope N k fr) (hc : X.calm = true) (hi : PI X tgt iter wi)
    (hg : ∀ cl C fp s H, PG (X.blk N scope cl C fp s H) tgt g) (ht : ∀ cl C fp s H, PTs (X.blk N scope cl C fp s H) ifs tt) (he : ∀ cl C fp s H, PE (X.blk N scope cl C fp s H) elt te)
    (I : Inv X pins σ H s) (h : tComp wi k fr g tt te σ H R)
    (fin : ∀ D H' s' C m, Inv X pins σ H' s' → FpOk X pins H' C → s'.heap.Ns C m → R (.ref D) H' → compPost (model X.prog X.w) X.A X.xe use Qv (.ref D) C (.ok .next) s')
    (hs : ∀ x, foldedSetIterable iter X.env x = pure x) :
    wpAny (model X.prog X.w) X.A (comprehension (.ListComp elt [⟨tgt, iter, ifs, 0⟩] scope pos) scope X.env pos' (newList []) false (eval iter X.env) use) Qv X.xe s := by
  obtain ⟨cl, hcl, c1, c2⟩ := closed (scope := scope) (env := X.env) fun x hx => I.ok.has x (B.free x hx)
  refine wpAny_comprehension_free rfl hs hcl B.kind B.own (thn (hi pins s σ H _ I h) fun v s1 h1 => thn h1 fun itv s2 h2 => ?_)
  obtain ⟨it, fp, tn, J, H2, e, I2, T, st2, f2, w2⟩ := h2
  subst e
  refine wpAny_newObj_type (wpAny_newFunctionEnv B.cell (by intro y hy; simp at hy) (fun h4 hns hsb => ?_) B.kind)
  dsimp only at hns hsb ⊢
  generalize hA : s2.heap.push { cls := .type "list", dict := none, data := .seq ([] : List Value).toArray } = hA2 at hns hsb ⊢
  have hC : hA2.objs.size = s2.heap.objs.size + 1 := by rw [← hA, Heap.size_push]
  have hDC : s2.heap.objs.size ≠ hA2.objs.size := by rw [hC]; exact Nat.ne_of_lt (Nat.lt_succ_self _)
  have kp : ∀ b o, s2.heap.get? b = some o → h4.get? b = some o := fun b o q => by
    have hb := Heap.lt_size q
    exact hsb.extBut b o (by rw [hC]; exact Nat.ne_of_lt (Nat.lt_succ_of_lt hb)) (Heap.get?_push_of_some _ (by rw [← hA]; exact Heap.get?_push_of_some _ q))
  have hlD : h4.get? s2.heap.objs.size = some { cls := .type "list", data := .seq #[] } := hsb.extBut _ _ hDC (Heap.get?_push_of_some _ (by rw [← hA]; exact Heap.get?_push_size _ rfl))
  have ob2 : ∀ b ∈ fp, ∃ o, s2.heap.get? b = some o := fun b hb => let ⟨o, q, _⟩ := T.obj _ _ st2 b hb; ⟨o, q⟩
  obtain ⟨W, ⟨m0, w0⟩, turn⟩ := w2 s2.heap.objs.size I2.fresh
  have I4 : Inv (X.blk N scope cl hA2.objs.size fp s2 H2) [] (blk0 k fr σ) (upd H2 s2.heap.objs.size (.lst [])) { s2 with heap := h4, toks := s2.toks + ([] : List (Str × Value)).length } :=
    blk_start B I2 f2 ob2 c1 c2 rfl ⟨I2.bare.1, Nat.le_trans I2.bare.2 (Nat.le_add_right _ _)⟩ (by rw [hC]; omega) (Nat.le_refl _) hDC kp hns hlD
  have tn4 : tn 0 h4 := T.keep _ _ _ st2 fun b _ o q => kp b o q
  have fpD : ∀ b ∈ fp, b ≠ s2.heap.objs.size := fun b hb z => by
    obtain ⟨o, q⟩ := ob2 b hb
    exact absurd (Heap.lt_size q) (by rw [z]; exact Nat.lt_irrefl _)
  -- what stays true of the iterator's objects within the block
  have stat : ∀ {H' : Hp}, (∀ b ∈ fp, H' b = none) → ∀ b ∈ fp, FpOk (X.blk N scope cl hA2.objs.size fp s2 H2) [] H' b := fun {H'} hn b hb => by
    obtain ⟨o, q⟩ := ob2 b hb
    have hlt := Heap.lt_size q
    exact ⟨hn b hb, by show b ≠ hA2.objs.size; rw [hC]; exact Nat.ne_of_lt (Nat.lt_succ_of_lt hlt), I4.ok.exfs b hb, .inl hb, fun x c ec => (f2 b hb).2.2.2.2.1 x c (c1 x c ec), fun p hp => absurd (show p ∈ ([] : List (Addr × Obj)) from hp) (by simp)⟩
  have loop : ∀ s5 : Shared, s5 = { s2 with heap := h4, toks := s2.toks + ([] : List (Str × Value)).length } →
      codeAny (model X.prog X.w) X.A (.compLoop (.ListComp elt [⟨tgt, iter, ifs, 0⟩] scope pos) 0 (.ref it) (.ref s2.heap.objs.size) (compEnvC scope cl hA2.objs.size X.env)) (compPost (model X.prog X.w) X.A X.xe use Qv (.ref s2.heap.objs.size) hA2.objs.size) s5 := by
    rintro s5 rfl
    refine comp_loop (fun n s' => ∃ i τ H', Inv (X.blk N scope cl hA2.objs.size fp s2 H2) [] τ H' s' ∧ tn i s'.heap ∧ (∀ b ∈ fp, H' b = none) ∧ W i n τ H') ?_ m0 ⟨0, _, _, I4, tn4, fun b hb => by rw [upd_ne (fpD b hb)]; exact (f2 b hb).1, w0⟩
    rintro n s6 ⟨i, τ6, H6, I6, st6, fr6, w6⟩
    rcases turn i n τ6 H6 w6 with ⟨stop, qn⟩ | ⟨go, Nn, hN, step⟩
    · refine thn (T.done (X.blk N scope cl hA2.objs.size fp s2 H2) rfl rfl rfl hc i [] s6 τ6 H6 _ I6 (stat fr6) st6 stop) fun r s7 ⟨hr, I7⟩ => ?_
      subst hr
      obtain ⟨m, hm, _⟩ := id I7.loc
      have u7 : Un (frs X.stack) fp H2 H6 s2.heap s7.heap := I7.base
      have IX : Inv X pins σ H6 s7 := I2.call' I7.os u7 I7.hok I7.bare fun b hb => ⟨(f2 b hb).2.2.2.1, (f2 b hb).2.1, (f2 b hb).2.2.2.2.1, (f2 b hb).2.2.2.2.2⟩
      exact fin _ H6 s7 hA2.objs.size m IX (I2.fpOk (by rw [hC]; omega) I7.free) hm qn
    · refine thn (T.item (X.blk N scope cl hA2.objs.size fp s2 H2) rfl rfl rfl hc i [] s6 τ6 H6 _ I6 (stat fr6) st6 go) fun r s7 ⟨u, hr, h7⟩ => ?_
      subst hr
      refine thn h7 fun _ s8 ⟨x, H8, I8, r8, y8, st8, fr8⟩ => ?_
      have I8' := I8.pinned (stat fr8) (T.obj _ _ st8)
      refine thn (hg cl _ fp s2 H2 _ s8 τ6 H8 x u _ I8' r8 (step x H8 y8)) fun _ s9 ⟨τ9, H9, I9, q9⟩ => ?_
      refine thn (ht cl _ fp s2 H2 _ s9 τ9 H9 _ I9 q9) fun ok s10 ⟨H10, I10, q10⟩ => ?_
      have again : ∀ {τ' : St} {H' : Hp} {s' : Shared}, Inv (X.blk N scope cl hA2.objs.size fp s2 H2) ([] ++ pinsAt fp s8.heap) τ' H' s' → Nn τ' H' →
          ∃ m, m < n ∧ ∃ i τ H', Inv (X.blk N scope cl hA2.objs.size fp s2 H2) [] τ H' s' ∧ tn i s'.heap ∧ (∀ b ∈ fp, H' b = none) ∧ W i m τ H' := fun {τ' H' s'} I' n' => by
        obtain ⟨m', hm, w'⟩ := hN τ' H' n'
        refine ⟨m', hm, i + 1, τ', H', I'.unpinned, T.keep _ _ _ st8 fun b hb o q => (I'.pin (b, o) (List.mem_append_right _ (List.mem_append_right _ (mem_pinsAt hb q)))).1, fun b hb => ?_, w'⟩
        obtain ⟨o, q, d⟩ := T.obj _ _ st8 b hb
        exact (I'.pin (b, o) (List.mem_append_right _ (List.mem_append_right _ (mem_pinsAt hb q)))).2.1
      cases ok with
      | false =>
        rw [if_neg Bool.false_ne_true] at q10 ⊢
        exact again I10 q10
      | true =>
        rw [if_pos rfl] at q10 ⊢
        refine thn (he cl _ fp s2 H2 _ s10 τ9 H10 _ I10 q10) fun y s11 ⟨vy, H11, I11, r11, ys, hys, hz, n11⟩ => ?_
        refine thn (mt_append _ s11 τ9 H11 (.ref s2.heap.objs.size) [vy] (.ref s2.heap.objs.size) [y] (fun _ H' => Nn τ9 H') I11 rfl (.cons r11 .nil) ⟨_, ys, vy, rfl, rfl, hys, hz, n11⟩) fun z s12 ⟨_, H12, I12, _, n12⟩ => ?_
        exact again I12 n12
  exact codeAny_compStart_list (loop _ rfl) (T.self _ _ _ _ _ tn4 (loop _ rfl))

/-- [elt for tgt in iter (if c)] -/
theorem pe_comp {X : Cx} {elt tgt iter : Expr} {ifs : List Expr} {scope : Scope} {pos : Pos} {N : List Str} {k : Nat} {fr : List Nat} {wi : TI} {g : TG} {tt : TT} {te : TE}
    (B : blkB X.N X.env.scope scope N k fr = true) (hc : X.calm = true) (hi : PI X tgt iter wi)
    (hg : ∀ cl C fp s H, PG (X.blk N scope cl C fp s H) tgt g) (ht : ∀ cl C fp s H, PTs (X.blk N scope cl C fp s H) ifs tt) (he : ∀ cl C fp s H, PE (X.blk N scope cl C fp s H) elt te)
    (hs : ∀ x, foldedSetIterable iter X.env x = pure x := by intro _; rfl) :
    PE X (.ListComp elt [⟨tgt, iter, ifs, 0⟩] scope pos) (tComp wi k fr g tt te) := by
  intro pins s σ H Q I h
  rw [eval_ListComp]
  refine wp_comp (use := none) (R := Q) (blk_of B) hc hi hg ht he I h (fun D H' s' C m I' f' hn q => ?_) hs
  refine ⟨m, hn, fun h' sb => ?_⟩
  obtain ⟨f0, f1, f2, f3, f4, f5⟩ := f'
  have I'' : Inv X pins σ H' { s' with heap := h' } := I'.turned (t' := s'.toks) (fun b o hb e => (sb.2 b hb).trans e) f0 f1 f3 f4 f5
  exact ⟨.ref D, H', I'', rfl, q⟩
/-- y = [elt for tgt in iter (if c)], on one row, y a plain local name: the list is stored ahead of the block's end -/
theorem ps_setComp {X : Cx} {i : Nat} {y : Str} {elt tgt iter : Expr} {ifs : List Expr} {scope : Scope} {pos py pos' : Pos} {N : List Str} {k : Nat} {fr : List Nat} {wi : TI} {g : TG} {tt : TT} {te : TE}
    (hN : X.N.Nodup) (hiy : X.N[i]? = some y) (hy : Loc X.env.scope y)
    (B : blkB X.N X.env.scope scope N k fr = true) (hc : X.calm = true) (hi : PI X tgt iter wi)
    (hg : ∀ cl C fp s H, PG (X.blk N scope cl C fp s H) tgt g) (ht : ∀ cl C fp s H, PTs (X.blk N scope cl C fp s H) ifs tt) (he : ∀ cl C fp s H, PE (X.blk N scope cl C fp s H) elt te)
    (hsw : swapsWith (.ListComp elt [⟨tgt, iter, ifs, 0⟩] scope pos) (some (.Name y py)) pos'.line X.env = pure true)
    (hs : ∀ x, foldedSetIterable iter X.env x = pure x := by intro _; rfl)
    (hf : X.fn y = true ∨ X.env.scope.names.lookup y = some .local := by first | exact .inl rfl | exact .inr rfl | assumption) :
    PS X (.Assign [.Name y py] (.ListComp elt [⟨tgt, iter, ifs, 0⟩] scope pos) pos') (fun D σ H => tComp wi k fr g tt te σ H fun v H' => D.nx (σ.set i (some v)) H') := by
  intro pins s σ H D I h
  rw [exec_Assign_Name_used _ _ _ _ hsw]
  refine wpAny_bind (wpAny_standAt (wpAny_bind ?_))
  show wpAny _ X.A (do let _ ← comprehension (.ListComp elt [⟨tgt, iter, ifs, 0⟩] scope pos) scope X.env _ (newList []) false (eval iter X.env) (some (assign (.Name y py) X.env))) _ _ s
  refine wpAny_bind (thn (wp_comp (use := some (assign (.Name y py) X.env)) (Qv := fun _ s' => SP X pins D .next s') (blk_of B) hc hi hg ht he I h (fun D' H' s' C m I' f' hn q => ?_) hs) fun _ s' q => wpAny_pure (wpAny_pure q))
  show wpAny _ X.A (assign (.Name y py) X.env (.ref D')) _ _ _
  obtain ⟨f0, f1, f2, f3, f4, f5⟩ := f'
  refine wpAny_assign_Name (store_ok2 I' hN hiy hy (v := .ref D') rfl (fun s'' I'' ⟨a, sb, ha⟩ => ?_) hf)
  have hCa : C ≠ a := by
    rcases ha with z | z
    · rw [z]; exact f1
    · exact fun q => f4 y a z q.symm
  refine ⟨m, hn.sameBut sb hCa, fun h' sb' => ?_⟩
  have I3 : Inv X pins (σ.set i (some (.ref D'))) H' { s'' with heap := h' } := I''.turned (t' := s''.toks) (fun b o hb e => (sb'.2 b hb).trans e) f0 f1 f3 f4 f5
  exact ⟨_, H', I3, q⟩

/-! ### a text, sign by sign -/
def Its (x : Str) : It := ⟨fun i _ => i < x.length, fun i H v H' => H' = H ∧ ∃ c, x.cps[i]? = some c ∧ v = .str ⟨#[c]⟩, fun i _ => x.length ≤ i⟩
theorem turn_str {P : Program} {w : World} {K : PySem.W.Frag} {tg : Expr} (it : Addr) (x : Str) (t : Tok) : Turn P w K tg (Its x) [it] it (fun i h => i ≤ x.length ∧ h.IsStrIter it (strIterType x) x t i) where
  mem := by simp
  obj := fun i h st b hb => by
    have e : b = it := by simpa using hb
    subst e
    obtain ⟨_, o, e, c, d⟩ := st
    exact ⟨o, e, fun v z => by rw [d] at z; cases z⟩
  keep := fun i h h' st k => by
    obtain ⟨l, o, e, r⟩ := st
    exact ⟨l, o, k it (by simp) o e, r⟩
  item := by
    intro X hP hw hK hc i pins s σ H E I hf st hg
    subst hP hw hK
    obtain ⟨f0, f1, f2, f3, f4, f5⟩ := hf it (by simp)
    have hg' : i < x.cps.size := hg
    have fin : ∀ (h' : Heap), h'.IsStrIter it (strIterType x) x t (i + 1) → Heap.SameBut it s.heap h' → ∃ u, some (Value.str ⟨#[x.cps[i]]⟩ s.toks) = some u ∧
        wpAny (model X.prog X.w) X.A (letOwnedTupleGo tg (.ref it) u) (fun _ s2 => ∃ y H', Inv X pins σ H' s2 ∧ RelV y u ∧ (Its x).yld i H y H' ∧ ((i + 1) ≤ x.length ∧ s2.heap.IsStrIter it (strIterType x) x t (i + 1)) ∧ ∀ b ∈ [it], H' b = none) E { s with heap := h', toks := s.toks + 1 } := fun h' st' sb => by
      have I1 : Inv X pins σ H { s with heap := h', toks := s.toks + 1 } := I.turned (fun b o hb e => (sb.2 b hb).trans e) f0 f1 f3 f4 f5
      refine ⟨_, rfl, ?_⟩
      have z : wpAny (model X.prog X.w) X.A (pure ()) (fun _ s2 => ∃ y H', Inv X pins σ H' s2 ∧ RelV y (Value.str ⟨#[x.cps[i]]⟩ s.toks) ∧ (Its x).yld i H y H' ∧ ((i + 1) ≤ x.length ∧ s2.heap.IsStrIter it (strIterType x) x t (i + 1)) ∧ ∀ b ∈ [it], H' b = none) E { s with heap := h', toks := s.toks + 1 } :=
        wpAny_pure ⟨.str ⟨#[x.cps[i]]⟩, H, I1, ⟨_, rfl⟩, ⟨rfl, _, by simp [hg'], rfl⟩, ⟨hg', st'⟩, fun b hb => (hf b hb).1⟩
      unfold letOwnedTupleGo
      cases tg <;> exact z
    have st2 := st.2
    cases ha : x.cps.all (· < 128)
    · have e : strIterType x = "str_iterator" := by simp [strIterType, ha]
      rw [e] at st2 fin
      rw [e]
      exact wpAny_pyNext_wide_item st2 (c := x.cps[i]) (by simp [hg']) fun h' st' sb => fin h' st' sb
    · have e : strIterType x = "str_ascii_iterator" := by simp [strIterType, ha]
      rw [e] at st2 fin
      rw [e]
      exact wpAny_pyNext_ascii_item st2 (c := x.cps[i]) (by simp [hg']) fun h' st' sb => fin h' st' sb
  done := by
    intro X hP hw hK hc i pins s σ H E I hf st hg
    subst hP hw hK
    obtain ⟨f0, f1, f2, f3, f4, f5⟩ := hf it (by simp)
    have hx : x.cps[i]? = none := by
      have hg' : x.cps.size ≤ i := hg
      simp [hg']
    have st2 := st.2
    cases ha : x.cps.all (· < 128)
    · have e : strIterType x = "str_iterator" := by simp [strIterType, ha]
      rw [e] at st2
      exact wpAny_pyNext_wide_end (I.ok.hd hc) st2 hx fun h' eb => ⟨rfl, I.turned (t' := s.toks) (fun b o hb e => eb b o hb e) f0 f1 f3 f4 f5⟩
    · have e : strIterType x = "str_ascii_iterator" := by simp [strIterType, ha]
      rw [e] at st2
      exact wpAny_pyNext_ascii_end (I.ok.hd hc) st2 hx fun h' eb => ⟨rfl, I.turned (t' := s.toks) (fun b o hb e => eb b o hb e) f0 f1 f3 f4 f5⟩
  self := fun A i s Q E st h => by
    have st2 := st.2
    cases ha : x.cps.all (· < 128)
    · have e : strIterType x = "str_iterator" := by simp [strIterType, ha]
      rw [e] at st2
      exact wpAny_pyIter_striter_wide st2 h
    · have e : strIterType x = "str_ascii_iterator" := by simp [strIterType, ha]
      rw [e] at st2
      exact wpAny_pyIter_striter_ascii st2 h
def iStr (te : TE) : TI := fun σ H R => te σ H fun v H1 => ∃ x, v = .str x ∧ R (Its x) H1
theorem pi_str {X : Cx} {tg e : Expr} {te : TE} (he : PE X e te) : PI X tg e (iStr te) := by
  intro pins s σ H R I h
  refine thn (he pins s σ H _ I h) fun v s1 ⟨y, H1, I1, r1, q1⟩ => ?_
  obtain ⟨x, e, q⟩ := q1
  subst e
  obtain ⟨t, rfl⟩ := r1
  refine wpAny_pyIter_strU ?_
  refine ⟨s1.heap.objs.size, [s1.heap.objs.size], _, _, H1, rfl, I1.kept (t' := s1.toks) fun b o e => Heap.get?_push_of_some _ e, turn_str _ x t, ⟨Nat.zero_le _, _, Heap.get?_push_size _ rfl, rfl, rfl⟩, fun b hb => ?_, q⟩
  have e : b = s1.heap.objs.size := by simpa using hb
  subst e
  exact I1.fpOk (Nat.le_refl _) (I1.hok.fresh (Nat.le_refl _))

/-! ### enumerate over a text, its pairs taken apart at once -/
def Ite (x : Str) : It := ⟨fun i _ => i < x.length, fun i H v H' => ∃ p c, H p = none ∧ x.cps[i]? = some c ∧ v = .ref p ∧ H' = upd H p (.tup [.int i, .str ⟨#[c]⟩]), fun i _ => x.length ≤ i⟩
theorem turn_enumS {P : Program} {w : World} {K : PySem.W.Frag} {es : List Expr} {k : Nat} {tp : Pos} (e it : Addr) (hei : e ≠ it) (x : Str) (t : Tok) :
    Turn P w K (.Tuple es k tp) (Ite x) [e, it] e (fun i h => i ≤ x.length ∧ (∃ old, IsEnum h e it i old) ∧ h.IsStrIter it (strIterType x) x t i) where
  mem := by simp
  obj := fun i h st b hb => by
    obtain ⟨_, ⟨old, h1⟩, o, h2, h3, h4⟩ := st
    rcases List.mem_cons.mp hb with z | z
    · subst z
      exact ⟨_, h1, fun v q => by cases q⟩
    · have z' : b = it := by simpa using z
      subst z'
      exact ⟨o, h2, fun v q => by rw [h4] at q; cases q⟩
  keep := fun i h h' st kp => by
    obtain ⟨l, ⟨old, h1⟩, o, h2, r⟩ := st
    exact ⟨l, ⟨old, kp e (by simp) _ h1⟩, o, kp it (by simp) o h2, r⟩
  item := by
    intro X hP hw hK hc i pins s σ H E I hf st hg
    subst hP hw hK
    have hg' : i < x.cps.size := hg
    obtain ⟨_, ⟨old, he⟩, hit⟩ := st
    have helt : e < s.heap.objs.size := Heap.lt_size he
    have hilt : it < s.heap.objs.size := by obtain ⟨_, q, _⟩ := id hit; exact Heap.lt_size q
    -- the step, whatever the kind of the text's own iterator is
    have go : ∀ {St : Nat → Heap → Prop}, (∀ j h, St j h ↔ h.IsStrIter it (strIterType x) x t j) → Draws X.prog X.w X.A.in1 it [it] x.cps.size (fun i v => ∃ c u, x.cps[i]? = some c ∧ v = .str ⟨#[c]⟩ u) St →
        wpAny (model X.prog X.w) X.A (pyNext (.ref e)) (fun r s1 => ∃ u, r = some u ∧ wpAny (model X.prog X.w) X.A (letOwnedTupleGo (.Tuple es k tp) (.ref e) u) (fun _ s2 => ∃ y H', Inv X pins σ H' s2 ∧ RelV y u ∧ (Ite x).yld i H y H' ∧
          ((i + 1) ≤ x.length ∧ (∃ old, IsEnum s2.heap e it ((i + 1 : Nat) : Int) old) ∧ s2.heap.IsStrIter it (strIterType x) x t (i + 1)) ∧ ∀ b ∈ [e, it], H' b = none) E s1) E s := fun {St} hSt D => by
      refine wpAny_with_toks (Nat.le_refl s.toks) (wpAny_pyNext_enum_itemD D he ((hSt _ _).mpr hit) hg' hei (by simp [hei]) fun u h1 tk hP ho hst' hT hsz hk htk => ?_)
      obtain ⟨c, tu, hcx, rfl⟩ := hP
      refine ⟨_, rfl, wpAny_letOwnedTupleGo_enum ho fun h2 he2 hs2 => ?_⟩
      have hs2' : Heap.SameBut e h1 h2 := hs2
      have ndp : s.heap.objs.size ≠ e := Nat.ne_of_gt helt
      have hT2 : h2.get? s.heap.objs.size = some { cls := .type "tuple", data := .seq #[.int i tk, .str ⟨#[c]⟩ tu] } := (hs2'.2 _ ndp).trans hT
      have kp : ∀ b o, b ≠ e → b ≠ it → s.heap.get? b = some o → h2.get? b = some o := fun b o n1 n2 q => (hs2'.2 b n1).trans (hk b o n1 n2 q)
      have pn : H s.heap.objs.size = none := I.hok.fresh (Nat.le_refl _)
      have fpp : FpOk X pins H s.heap.objs.size := I.fpOk (Nat.le_refl _) pn
      have fpe : FpOk X pins H e := hf e (by simp)
      have fpi : FpOk X pins H it := hf it (by simp)
      have tupNe : ∀ b xs, H b = some (.tup xs) → b ≠ s.heap.objs.size := fun b xs q => ne_of_none q pn
      have hok1 : HOk X.prog X.w H h2 := fun b o q => by
        have nb : ∀ z, H z = none → b ≠ z := fun z hz => ne_of_none q hz
        refine (I.hok b o q).stay (fun c' v' hc' q' => kp c' v' ?_ ?_ q') (fun _ z => z) fun _ _ z => z
        · rcases hc' with z | z
          · rw [z]; exact nb e fpe.1
          · exact ne_of_none z fpe.1
        · rcases hc' with z | z
          · rw [z]; exact nb it fpi.1
          · exact ne_of_none z fpi.1
      have hok2 : HOk X.prog X.w (upd H s.heap.objs.size (.tup [.int i, .str ⟨#[c]⟩])) h2 := fun b o q => by
        by_cases hb : b = s.heap.objs.size
        · subst hb
          rw [upd_same] at q
          cases q
          refine ⟨(by show 2 ≤ sizeLine; rw [sizeLine_eq]; decide), [.int i tk, .str ⟨#[c]⟩ tu], .cons ⟨tk, rfl⟩ (.cons ⟨tu, rfl⟩ .nil), _, hT2, rfl, _, rfl⟩
        · rw [upd_ne hb] at q
          exact (hok1 b o q).stay (fun _ _ _ z => z) (fun c' z => by rw [upd_ne (ne_of_none z pn)]; exact z) fun c' xs z => by rw [upd_ne (tupNe c' xs z)]; exact z
      have I1 : Inv X pins σ (upd H s.heap.objs.size (.tup [.int i, .str ⟨#[c]⟩])) { s with heap := h2, toks := tk + 1 } := by
        refine I.step (g' := s.gens) (d' := s.drawn) (ch := [e, it, s.heap.objs.size]) (fun b hb => ?_) (fun b o _ _ hch q _ => kp b o (fun z => hch (by simp [z])) (fun z => hch (by simp [z])) q)
          (fun b o _ _ hch q _ => ⟨o.slots, kp b o (fun z => hch (by simp [z])) (fun z => hch (by simp [z])) q⟩) (fun b o hch _ n => by rw [upd_ne (fun z => hch (by simp [z]))]; exact n)
          (fun b o hch q => ⟨o, kp b o (fun z => hch (by simp [z])) (fun z => hch (by simp [z])) q⟩) (fun b xs q => by rw [upd_ne (ne_of_none q pn)]; exact q) (fun b o u q => by rw [upd_ne (ne_of_none q pn)]; exact q)
          (fun b ps q => ⟨#[], by rw [upd_ne (ne_of_none q pn), q]; simp⟩) (fun m hm => ?_) hok2 ⟨I.bare.1, Nat.le_trans I.bare.2 htk⟩
        · rcases List.mem_cons.mp hb with z | hb
          · subst z; exact ⟨fpe.2.2.2.1, fpe.2.1, fpe.2.2.2.2.1, fpe.2.2.2.2.2⟩
          · rcases List.mem_cons.mp hb with z | hb
            · subst z; exact ⟨fpi.2.2.2.1, fpi.2.1, fpi.2.2.2.2.1, fpi.2.2.2.2.2⟩
            · have z : b = s.heap.objs.size := by simpa using hb
              subst z; exact ⟨fpp.2.2.2.1, fpp.2.1, fpp.2.2.2.2.1, fpp.2.2.2.2.2⟩
        · obtain ⟨o, es', ep, ho', r⟩ := hm
          exact ⟨o, es', ep, kp _ o (Ne.symm fpe.2.1) (Ne.symm fpi.2.1) ho', r⟩
      refine ⟨.ref s.heap.objs.size, _, I1, rfl, ⟨_, c, pn, hcx, rfl, rfl⟩, ⟨hg', ⟨Value.str ⟨#[c]⟩ tu, ?_⟩, ?_⟩, fun b hb => ?_⟩
      · have ec : (((i + 1 : Nat)) : Int) = (i : Int) + 1 := by omega
        rw [ec]
        exact he2
      · have hi1 := (hSt _ _).mp hst'
        obtain ⟨o, q, r⟩ := hi1
        exact ⟨o, (hs2'.2 it hei.symm).trans q, r⟩
      · rcases List.mem_cons.mp hb with z | z
        · subst z; rw [upd_ne (Ne.symm ndp)]; exact fpe.1
        · have z' : b = it := by simpa using z
          subst z'; rw [upd_ne (Nat.ne_of_lt hilt)]; exact fpi.1
    cases ha : x.cps.all (· < 128)
    · have ee : strIterType x = "str_iterator" := by simp [strIterType, ha]
      exact go (fun j h => by rw [ee]) (Draws.strWide (A := X.A.in1) (I.ok.hd hc) it x t)
    · have ee : strIterType x = "str_ascii_iterator" := by simp [strIterType, ha]
      exact go (fun j h => by rw [ee]) (Draws.strAscii (A := X.A.in1) (I.ok.hd hc) it x t)
  done := by
    intro X hP hw hK hc i pins s σ H E I hf st hg
    subst hP hw hK
    obtain ⟨hle, ⟨old, he⟩, hit⟩ := st
    obtain ⟨f0, f1, f2, f3, f4, f5⟩ := hf it (by simp)
    have hg' : x.cps.size ≤ i := hg
    have stop : ∀ {St : Nat → Heap → Prop}, (∀ j h, St j h ↔ h.IsStrIter it (strIterType x) x t j) → Draws X.prog X.w X.A.in1 it [it] x.cps.size (fun i v => ∃ c u, x.cps[i]? = some c ∧ v = .str ⟨#[c]⟩ u) St → i = x.cps.size →
        wpAny (model X.prog X.w) X.A (pyNext (.ref e)) (fun r s1 => r = none ∧ Inv X pins σ H s1) E s := fun {St} hSt D hi => by
      subst hi
      exact wpAny_pyNext_enum_endD D he ((hSt _ _).mpr hit) fun h' eb => ⟨rfl, I.turned (t' := s.toks) (fun b o hb q => eb b o hb q) f0 f1 f3 f4 f5⟩
    have ei : i = x.cps.size := Nat.le_antisymm hle hg'
    cases ha : x.cps.all (· < 128)
    · have ee : strIterType x = "str_iterator" := by simp [strIterType, ha]
      exact stop (fun j h => by rw [ee]) (Draws.strWide (A := X.A.in1) (I.ok.hd hc) it x t) ei
    · have ee : strIterType x = "str_ascii_iterator" := by simp [strIterType, ha]
      exact stop (fun j h => by rw [ee]) (Draws.strAscii (A := X.A.in1) (I.ok.hd hc) it x t) ei
  self := fun A i s Q E st h => by
    obtain ⟨_, ⟨old, he⟩, _⟩ := st
    exact wpAny_pyIter_enum he h
def iEnumS (ta : TA) : TI := fun σ H R => ta σ H fun vs H1 => ∃ x, vs = [.str x] ∧ R (Ite x) H1
theorem pi_enumS {X : Cx} {es : List Expr} {k : Nat} {tp : Pos} {a : Expr} {ta : TA} {p pos : Pos} (hg : Gl X "enumerate") (hm : X.mg "enumerate" = none) (ha : PA X [a] ta) (hs : starEach [a] X.env = [(false, eval a X.env)] := by rfl) :
    PI X (.Tuple es k tp) (.Call (.Name "enumerate" p) [a] [] pos) (iEnumS ta) := by
  intro pins s σ H R I h
  refine Call_ (ld_blt I hg hm boot_enumerate (PyProof.Rows.callWith_type1 (thn (ha pos pins s σ H _ I h) fun us s1 ⟨vs, H1, I1, r1, q1⟩ => ?_) hs rfl))
  obtain ⟨x, e, q⟩ := q1
  subst e
  obtain ⟨u, rfl, t, rfl⟩ := vals1 r1
  refine call_enumerate_str fun h' he hit hsz kp => ?_
  refine wpAny_pyIter_enum he ?_
  refine ⟨s1.heap.objs.size + 1, [s1.heap.objs.size + 1, s1.heap.objs.size], _, _, H1, rfl, I1.kept (t' := s1.toks) kp, turn_enumS _ _ (Nat.succ_ne_self _) x t, ⟨Nat.zero_le _, ⟨_, he⟩, hit⟩, fun b hb => ?_, q⟩
  have hb' : s1.heap.objs.size ≤ b := by
    rcases List.mem_cons.mp hb with z | z
    · rw [z]
      exact Nat.le_succ _
    · have z' : b = s1.heap.objs.size := by simpa using z
      rw [z']
      exact Nat.le_refl _
  exact I1.fpOk hb' (I1.hok.fresh hb')
end L2

namespace L2
open PySem PySem.Spec PyProof.Rows

/-! ## ExtB: texts and what is made of them; data compared as a whole -/
section
variable {X : Cx}

/-! ### lists of texts -/
theorem strsAre_of {ss : List Str} : ∀ {us : List Value}, Vals (ss.map V.str) us → StrsAre us ss := by
  induction ss with
  | nil => intro us r; rw [List.map_nil] at r; cases r; exact .nil
  | cons x ss ih =>
    intro us r
    rw [List.map_cons] at r
    cases r with
    | cons r1 r2 =>
      obtain ⟨t, e⟩ := r1
      subst e
      exact .cons x t (ih r2)
theorem vals_strs : ∀ {us : List Value} {ss : List Str}, StrsAre us ss → Vals (ss.map V.str) us
  | _, _, .nil => .nil
  | _, _, .cons x t h => .cons ⟨t, rfl⟩ (vals_strs h)

/-- sep.join(a list of texts) -/
def rJoin (K : PySem.W.Frag) : V → List V → Hp → VK → Prop := fun x vs H Q => ∃ sep p ys, x = .str sep ∧ vs = [.ref p] ∧ SqL K H p (ys.map V.str) ∧ (ys.map (·.length)).sum + ys.length * sep.length ≤ 16777216 ∧ Q (.str (Txt.join sep ys)) H
theorem mt_join : MtR X "str.join" (rJoin X.K) := by
  intro pins s σ H x vs v us Q I rx rv h
  obtain ⟨sep, p, ys, rfl, rfl, hq, hz, q⟩ := h
  obtain ⟨t, rfl⟩ := rx
  obtain ⟨u, rfl, ru⟩ := rv.one
  cases ru
  obtain ⟨its, r, pl, _⟩ := I.list hq
  exact wpAny_with_toks (Nat.le_refl _) (join_list pl.isList (by simpa using strsAre_of r) hz fun t' k htk => ⟨.str (Txt.join sep ys), H, I.tok k htk, ⟨_, rfl⟩, q⟩)

/-- sorted(a list of texts) -/
theorem call_sortedS : CallR X (.builtin "sorted") (fun xs H Q => ∃ p ss, xs = [.ref p] ∧ SqL X.K H p (ss.map V.str) ∧ ss.length < 64 ∧
    ∀ l ss', H l = none → ss'.Perm ss → sortedS ss' = true → Q (.ref l) (upd H l (.lst (ss'.map V.str)))) := by
  intro pins s σ H xs us Q I r h
  obtain ⟨p, ss, rfl, hq, h64, q⟩ := h
  obtain ⟨u, rfl, rx⟩ := vals1 r
  cases rx
  obtain ⟨its, rv, pl, hz⟩ := I.list hq
  have hS := strsAre_of rv
  have hlen := rv.length
  rw [List.length_map] at hlen
  refine sorted_strs pl.isList hS (by omega) fun out ss' h1 h2 h3 => ?_
  obtain ⟨e, he⟩ := sortedAll_at s.heap its out
  have hl2 : (ss'.map V.str).length ≤ sizeLine := by
    rw [List.length_map, h2.length_eq]
    have := hz
    rw [List.length_map] at this
    exact this
  have I1 : Inv X pins σ (upd H (s.heap.objs.size + 1) (.lst (ss'.map V.str))) { s with heap := sortedAll s.heap its out } :=
    I.laid (t' := s.toks) (fun b o z => sortedAll_old z) (Nat.le_succ _) ⟨hl2, out.toList, e, vals_strs h1, by rw [Array.toArray_toList]; exact he⟩
  exact ⟨.ref (s.heap.objs.size + 1), _, I1, rfl, q _ ss' (I.hok.fresh (Nat.le_succ _)) h2 h3⟩

/-- the signs of a text, as texts -/
def signsV (x : Str) : List V := x.cps.toList.map fun c => V.str ⟨#[c]⟩
theorem signsV_length (x : Str) : (signsV x).length = x.length := by
  unfold signsV
  rw [List.length_map]
  exact Array.length_toList
theorem signs_vals {x : Str} {acc : Array Value} (h : ItemsOf (SignAt x) acc x.cps.size) : Vals (signsV x) acc.toList := by
  obtain ⟨hz, hi⟩ := h
  have go : ∀ (cs : List Nat) (vs : List Value), cs.length = vs.length → (∀ (j : Nat) v, vs[j]? = some v → ∃ c u, cs[j]? = some c ∧ v = .str ⟨#[c]⟩ u) → Vals (cs.map fun c => V.str ⟨#[c]⟩) vs := by
    intro cs
    induction cs with
    | nil =>
      intro vs hl _
      cases vs with
      | nil => exact .nil
      | cons _ _ => cases hl
    | cons c cs ih =>
      intro vs hl hv
      cases vs with
      | nil => cases hl
      | cons v vs =>
        obtain ⟨c', u, e1, e2⟩ := hv 0 v rfl
        have e1' : c = c' := by simpa using e1
        subst e1'
        exact .cons ⟨u, e2⟩ (ih vs (by simpa using hl) fun j w' e => by simpa using hv (j + 1) w' (by simpa using e))
  refine go _ _ ?_ fun j v e => ?_
  · rw [Array.length_toList, Array.length_toList, hz]
  · obtain ⟨c, u, e1, e2⟩ := hi j v (by simpa using e)
    exact ⟨c, u, by simpa using e1, e2⟩
/-- list(a text) -/
theorem call_listS (hc : X.calm = true) : CallR X (.type "list") (fun xs H Q => ∃ x, xs = [.str x] ∧ x.length ≤ sizeLine ∧ ∀ l, H l = none → Q (.ref l) (upd H l (.lst (signsV x)))) := by
  intro pins s σ H xs us Q I r h
  obtain ⟨x, rfl, hz, q⟩ := h
  obtain ⟨u, rfl, t, rfl⟩ := vals1 r
  refine wpAny_with_toks (Nat.le_refl _) (call_list_str (I.ok.hd hc) x t (fun h' tk acc c kp he hi htk => ?_) hz)
  have htk : s.toks ≤ tk := htk
  have I1 : Inv X pins σ (upd H s.heap.objs.size (.lst (signsV x))) { s with heap := h', toks := tk } :=
    I.laid kp (Nat.le_refl _) ⟨by rw [signsV_length]; exact hz, acc.toList, c, signs_vals hi, by rw [Array.toArray_toList]; exact he⟩
  exact ⟨.ref s.heap.objs.size, _, I1, rfl, q _ (I.hok.fresh (Nat.le_refl _))⟩

/-! ### slices of texts -/
def rSlS : V → Option Int → Option Int → Hp → VK → Prop := fun x lo hi H Q => ∃ z, x = .str z ∧ z.length ≤ sizeLine ∧ Q (.str (Txt.slice z lo hi)) H
theorem sl_str : SlR X rSlS := by
  intro pins s σ H x v vl vu lo hi sl Q I rx hs pl pu h
  obtain ⟨z, rfl, hz, q⟩ := h
  obtain ⟨t, rfl⟩ := rx
  refine ⟨"str", _, F.slot_str_getitem.lookup, typeIs_str _ _ _, wpAny_with_toks (Nat.le_refl _) ?_⟩
  have fin : ∀ (c : Prop) [Decidable c] (y' : Str), (if c then z else y') = Txt.slice z lo hi → (if c then Made.val (.str z t) else Made.str y').post (fun u s' => s.toks ≤ s'.toks → EP X pins σ Q u s') s := fun c _ y' e =>
    post_val_or_str ⟨by rw [e]; exact Nat.le_trans (Txt.slice_le z lo hi) hz, fun t' k => by rw [e]; exact fun htk => ⟨.str (Txt.slice z lo hi), H, I.tok k htk, ⟨_, rfl⟩, q⟩⟩
  cases pl <;> cases pu
  · exact wpAny_getItem_str_slice (l := none) (u := none) (st := none) hs rfl (fin _ _ rfl)
  · rename_i j tj
    exact wpAny_getItem_str_slice (l := none) (u := some (j, tj)) (st := none) hs rfl (fin _ _ rfl)
  · rename_i i ti
    exact wpAny_getItem_str_slice (l := some (i, ti)) (u := none) (st := none) hs rfl (fin _ _ rfl)
  · rename_i i ti j tj
    exact wpAny_getItem_str_slice (l := some (i, ti)) (u := some (j, tj)) (st := none) hs rfl (fin _ _ rfl)

/-- z[i::k], z a text, k a written number that is not 0 -/
theorem pe_sliceBy {e : Expr} {te : TE} {lo step : Expr} {tl : TE} {k : Int} {p2 pos : Pos} (he : PE X e te) (hl : PE X lo tl) (hk : PE X step (tC (.int k))) (h0 : (k == 0) = false) :
    PE X (.Subscript e (.Slice (some lo) none (some step) p2) pos) (fun σ H Q => te σ H fun x H1 => tl σ H1 fun i H2 => ∃ z n, x = .str z ∧ i = .int n ∧ z.length ≤ sizeLine ∧ ∀ y : Str, y.length ≤ z.length → Q (.str y) H2) := by
  intro pins s σ H Q I h
  refine Subscript_ (thn (he pins s σ H _ I h) fun v s1 ⟨x, H1, I1, r1, q1⟩ => ?_)
  have hPl := po_some hl
  refine wpAny_Slice ?_
  rw [evalPart_some]
  refine thn (hl pins s1 σ H1 _ I1 q1) fun vl s2 ⟨i, H2, I2, r2, z, n, hx, hi, hz, q2⟩ => ?_
  subst hx
  subst hi
  obtain ⟨t, rfl⟩ := r1
  obtain ⟨tn, rfl⟩ := r2
  rw [evalPart_none]
  refine wpAny_pure ?_
  rw [evalPart_some]
  refine thn (hk pins s2 σ H2 (fun v H' => v = .int k ∧ H' = H2) I2 ⟨rfl, rfl⟩) fun vk s3 ⟨y, H3, I3, r3, ey, eH⟩ => ?_
  subst ey
  subst eH
  obtain ⟨tk, rfl⟩ := r3
  have I4 : Inv X pins σ H3 { s3 with heap := s3.heap.push { cls := .type "slice", data := .fields #[.int n tn, .none, .int k tk] } } := I3.kept (t' := s3.toks) fun b ob q => Heap.get?_push_of_some _ q
  have hle : (Txt.sliceBy z (some (n, tn)) none (k, tk)).length ≤ sizeLine := Nat.le_trans (Txt.sliceBy_le z _ _ (k, tk) (by simpa using h0)) hz
  have hg : wpAny (model X.prog X.w) X.A (getItem (.str z t) (.ref s3.heap.objs.size)) (EP X pins σ Q) X.xe { s3 with heap := s3.heap.push { cls := .type "slice", data := .fields #[.int n tn, .none, .int k tk] } } :=
    wpAny_with_toks (Nat.le_refl _) (wpAny_getItem_str_slice (l := some (n, tn)) (u := none) (st := some (k, tk)) ⟨_, Heap.get?_push_size _ rfl, rfl, rfl⟩ h0
      (post_val_or_str ⟨hle, fun t' c => fun htk => ⟨.str (Txt.sliceBy z (some (n, tn)) none (k, tk)), H3, I4.tok c htk, ⟨_, rfl⟩, q2 _ (Txt.sliceBy_le z _ _ (k, tk) (by simpa using h0))⟩⟩))
  exact tail_any (ops := [.ref s3.heap.objs.size, .str z t]) (typeIs_str _ _ _) F.slot_str_getitem.lookup hg (by with_unfolding_all rfl)

/-! ### z * n -/
theorem op_mulS : OpR X (binaryOp .Mult) (fun x y H Q => ∃ z n, x = .str z ∧ y = .int n ∧ 2 ≤ n ∧ n ≤ 1000 ∧ 1 ≤ z.length ∧ z.length ≤ 1000 ∧ Q (.str ⟨(List.replicate n.toNat z.cps).foldl (· ++ ·) #[]⟩) H) := by
  intro pins s σ H x y v u Q I rx ry h
  obtain ⟨z, n, rfl, rfl, h1, h2, h3, h4, q⟩ := h
  obtain ⟨t, rfl⟩ := rx
  obtain ⟨t', rfl⟩ := ry
  have hb : ((n == 1) || (z.length == 0)) = false := by
    rw [Bool.or_eq_false_iff]
    exact ⟨by simp; omega, by simp; omega⟩
  have hm : z.length * n.toNat ≤ 1000 * 1000 := Nat.mul_le_mul h4 (by omega)
  refine P.mul_str (by rw [decide_eq_false (by omega), decide_eq_false (by omega)]; rfl) (fun _ _ => ?_) (fun _ _ => ?_) ?_
  · have hd : (1000 : Int) ≤ (2 ^ 63 - 1) / n := by
      have : (1000 : Int) * n ≤ 2 ^ 63 - 1 := by omega
      exact (Int.le_ediv_iff_mul_le (by omega)).mpr this
    omega
  · have h6 : (1000000 : Nat) ≤ sizeLine := by rw [sizeLine_eq]; decide
    unfold Builtin.Str.tooLong
    exact decide_eq_false (by omega)
  · rw [if_neg (by omega), if_neg (by rw [hb]; exact Bool.false_ne_true)]
    refine ⟨?_, .str _, H, I.tok _, ⟨_, rfl⟩, q⟩
    have e : ∀ (m : Nat) (acc : Array Nat), ((List.replicate m z.cps).foldl (· ++ ·) acc).size = acc.size + m * z.cps.size := by
      intro m
      induction m with
      | zero => intro acc; simp
      | succ m ih => intro acc; rw [List.replicate_succ, List.foldl_cons, ih, Array.size_append, Nat.succ_mul]; omega
    show ((List.replicate n.toNat z.cps).foldl (· ++ ·) #[]).size ≤ sizeLine
    rw [e, Nat.mul_comm]
    have h5 : z.cps.size * n.toNat ≤ 1000 * 1000 := hm
    have h6 : (1000000 : Nat) ≤ sizeLine := by rw [sizeLine_eq]; decide
    have h7 : (#[] : Array Nat).size = 0 := rfl
    omega

/-! ### min, max of two texts -/
theorem cmpS_lt {prog : Program} {w : World} {A : Around} {P : Nat → Value → Prop} (val : Nat → Str) (hval : ∀ i v, P i v → ∃ t, v = .str (val i) t) : CmpOf prog w A .Lt P (fun i j => decide ((val i).cps.toList < (val j).cps.toList)) := fun i j vi vj s Q E hi hj h => by
  obtain ⟨t, rfl⟩ := hval i vi hi
  obtain ⟨u, rfl⟩ := hval j vj hj
  exact richCompare_gives (op := .Lt) (typeIs_str s _ t) (typeIs_str s _ u) F.slot_str_lt F.entry_str_lt (F.args_str_lt_2 _ _) (gives_str_lt _ _ t u) (fun x => nomatch x) h
theorem cmpS_gt {prog : Program} {w : World} {A : Around} {P : Nat → Value → Prop} (val : Nat → Str) (hval : ∀ i v, P i v → ∃ t, v = .str (val i) t) : CmpOf prog w A .Gt P (fun i j => decide ((val j).cps.toList < (val i).cps.toList)) := fun i j vi vj s Q E hi hj h => by
  obtain ⟨t, rfl⟩ := hval i vi hi
  obtain ⟨u, rfl⟩ := hval j vj hj
  exact richCompare_gives (op := .Gt) (typeIs_str s _ t) (typeIs_str s _ u) F.slot_str_gt F.entry_str_gt (F.args_str_gt_2 _ _) (gives_str_gt _ _ t u) (fun x => nomatch x) h
/-- what both lean on: the pair that the call makes is walked -/
theorem two_walk {prog : Program} {w : World} {A : Around} {E : Value → Shared → Prop} {s : Shared} {va vb : Value} {Q : Value → Shared → Prop} (hh : A.handled = none) (bt : Nat → Nat → Bool) {op : CmpOp}
    (hcmp : CmpOf prog w A.in1 op (fun i v => (#[va, vb] : Array Value)[i]? = some v) bt) (h : ∀ h' tk, (∀ c o, s.heap.get? c = some o → h'.get? c = some o) → Q (if bt 1 0 = true then vb else va) { s with heap := h', toks := tk }) :
    wpAny (model prog w) A.in1 (pyIter (.ref s.heap.objs.size)) (fun it s₂ => ∃ I fp wr n P St bt, it = .ref I ∧ Walks prog w A.in1 I fp wr n P St ∧ St 0 s₂.heap ∧ (∀ b ∈ fp, b < s₂.heap.objs.size) ∧ 0 < n ∧ CmpOf prog w A.in1 op P bt ∧
      ∀ v h' tk, P (argBest bt (n - 1)) v → (∀ b o, b ∉ wr → s₂.heap.get? b = some o → h'.get? b = some o) → Q v { s₂ with heap := h', toks := tk }) E
      { s with heap := s.heap.push { cls := .type "tuple", data := .seq #[va, vb] } } := by
  have hT : (s.heap.push { cls := .type "tuple", data := .seq #[va, vb] }).IsTuple s.heap.objs.size #[va, vb] := ⟨_, Heap.get?_push_size _ rfl, rfl, 0, rfl⟩
  have hsz : (s.heap.push { cls := .type "tuple", data := .seq #[va, vb] }).objs.size = s.heap.objs.size + 1 := Heap.size_push ..
  refine wpAny_pyIter_tuple hT ?_
  refine ⟨_, [_, s.heap.objs.size], [_], _, _, _, bt, rfl, Walks.tuple (A := A.in1) hh _ s.heap.objs.size (by rw [hsz]; exact Nat.ne_of_lt (Nat.lt_succ_self _)) #[va, vb], ⟨⟨_, Heap.get?_push_size _ rfl, rfl, rfl⟩, hT.push _⟩, fun c hc => ?_, by simp, hcmp, fun v h' tk hP hk => ?_⟩
  · show c < ((s.heap.push _).push _).objs.size
    rw [Heap.size_push, hsz]
    rcases List.mem_cons.mp hc with z | z
    · rw [z, hsz]; exact Nat.lt_succ_self _
    · have z' : c = s.heap.objs.size := by simpa using z
      rw [z']; exact Nat.lt_succ_of_lt (Nat.lt_succ_self _)
  · have hv : v = if bt 1 0 = true then vb else va := by
      have hP' : (#[va, vb] : Array Value)[argBest bt 1]? = some v := hP
      by_cases hb : bt 1 0 = true
      · have e : argBest bt 1 = 1 := by simp [argBest, hb]
        rw [e] at hP'
        rw [if_pos hb]
        simpa using hP'.symm
      · have e : argBest bt 1 = 0 := by simp [argBest, hb]
        rw [e] at hP'
        rw [if_neg hb]
        simpa using hP'.symm
    rw [hv]
    refine h h' tk fun c o z => ?_
    refine hk c o (fun hm => ?_) (Heap.get?_push_of_some _ (Heap.get?_push_of_some _ z))
    have e1 : c = (s.heap.push { cls := .type "tuple", data := .seq #[va, vb] }).objs.size := by simpa using hm
    have y := Heap.lt_size z
    rw [e1, hsz] at y
    exact Nat.lt_irrefl _ (Nat.lt_of_succ_lt y)
def strAt2 (a b : Str) (i : Nat) : Str := if i = 0 then a else b
theorem strAt2_is {a b : Str} {t u : Tok} {i : Nat} {v : Value} (h : (#[.str a t, .str b u] : Array Value)[i]? = some v) : ∃ t', v = .str (strAt2 a b i) t' := by
  match i, h with
  | 0, h => exact ⟨t, by simpa [strAt2] using h.symm⟩
  | 1, h => exact ⟨u, by simpa [strAt2] using h.symm⟩
  | n + 2, h => simp at h
theorem call_minS (hc : X.calm = true) : CallR X (.builtin "min") (fun xs H Q => ∃ a b, xs = [.str a, .str b] ∧ Q (.str (if b.cps.toList < a.cps.toList then b else a)) H) := by
  intro pins s σ H xs us Q I r h
  obtain ⟨a, b, rfl, q⟩ := h
  obtain ⟨u, w', rfl, ⟨t, rfl⟩, ⟨t', rfl⟩⟩ := vals2 r
  refine wpAny_with_toks (Nat.le_refl _) (call_min_two (two_walk (s := s) (Q := fun u s' => s.toks ≤ s'.toks → EP X pins σ Q u s') (I.ok.hd hc) _ (cmpS_lt (strAt2 a b) fun _ _ => strAt2_is) fun h' tk k htk => ⟨_, H, I.kept k htk, ?_, q⟩))
  by_cases hj : b.cps.toList < a.cps.toList
  · rw [if_pos (show decide ((strAt2 a b 1).cps.toList < (strAt2 a b 0).cps.toList) = true from decide_eq_true hj), if_pos hj]; exact ⟨_, rfl⟩
  · rw [if_neg (show ¬ decide ((strAt2 a b 1).cps.toList < (strAt2 a b 0).cps.toList) = true by rw [decide_eq_true_iff]; exact hj), if_neg hj]; exact ⟨_, rfl⟩
theorem call_maxS (hc : X.calm = true) : CallR X (.builtin "max") (fun xs H Q => ∃ a b, xs = [.str a, .str b] ∧ Q (.str (if a.cps.toList < b.cps.toList then b else a)) H) := by
  intro pins s σ H xs us Q I r h
  obtain ⟨a, b, rfl, q⟩ := h
  obtain ⟨u, w', rfl, ⟨t, rfl⟩, ⟨t', rfl⟩⟩ := vals2 r
  refine wpAny_with_toks (Nat.le_refl _) (call_max_two (two_walk (s := s) (Q := fun u s' => s.toks ≤ s'.toks → EP X pins σ Q u s') (I.ok.hd hc) _ (cmpS_gt (strAt2 a b) fun _ _ => strAt2_is) fun h' tk k htk => ⟨_, H, I.kept k htk, ?_, q⟩))
  by_cases hj : a.cps.toList < b.cps.toList
  · rw [if_pos (show decide ((strAt2 a b 0).cps.toList < (strAt2 a b 1).cps.toList) = true from decide_eq_true hj), if_pos hj]; exact ⟨_, rfl⟩
  · rw [if_neg (show ¬ decide ((strAt2 a b 0).cps.toList < (strAt2 a b 1).cps.toList) = true by rw [decide_eq_true_iff]; exact hj), if_neg hj]; exact ⟨_, rfl⟩

/-! ### x is True, x is not False .. -/
theorem bool_plain {x : V} {v : Value} {c : Bool} (r : RelV x v) : (∀ n, x ≠ .ty n) → plainIs v (.bool c) = true ∧ (v == Value.bool c) = decide (x = .bl c) := by
  intro _
  cases x with
  | bl b =>
    cases r
    refine ⟨rfl, ?_⟩
    cases b <;> cases c <;> rfl
  | non => cases r; exact ⟨rfl, rfl⟩
  | old z _ n => obtain ⟨t, rfl, _⟩ := r; exact ⟨rfl, rfl⟩
  | ref a => cases r; exact ⟨rfl, rfl⟩
  | ty n => cases r; exact ⟨rfl, rfl⟩
  | int i => obtain ⟨t, rfl⟩ := r; exact ⟨rfl, rfl⟩
  | str z => obtain ⟨t, rfl⟩ := r; exact ⟨rfl, rfl⟩
  | byt z => obtain ⟨t, rfl⟩ := r; exact ⟨rfl, rfl⟩
  | flt z => obtain ⟨t, rfl⟩ := r; exact ⟨rfl, rfl⟩
theorem op_isB : OpR X (compareOp .Is) (fun x y H Q => ∃ c, y = .bl c ∧ (∀ n, x ≠ .ty n) ∧ Q (.bl (decide (x = .bl c))) H) := by
  intro pins s σ H x y v u Q I rx ry h
  obtain ⟨c, rfl, hn, q⟩ := h
  cases ry
  obtain ⟨h1, h2⟩ := bool_plain (c := c) rx hn
  exact wpAny_is_plain h1 (fin_bl I q h2.symm)
theorem op_isNotB : OpR X (compareOp .IsNot) (fun x y H Q => ∃ c, y = .bl c ∧ (∀ n, x ≠ .ty n) ∧ Q (.bl (!decide (x = .bl c))) H) := by
  intro pins s σ H x y v u Q I rx ry h
  obtain ⟨c, rfl, hn, q⟩ := h
  cases ry
  obtain ⟨h1, h2⟩ := bool_plain (c := c) rx hn
  exact wpAny_isNot_plain h1 (fin_bl I q (by rw [h2]))

/-! ### isinstance(x, a built-in class) -/
theorem call_isinst : CallR X (.builtin "isinstance") (fun xs H Q => ∃ x T t b, xs = [x, .ty T] ∧ TyOf X.K H x t ∧ PySem.W.kitOne X.K t (.type T) = some b ∧ Q (.bl b) H) := by
  intro pins s σ H xs us Q I r h
  obtain ⟨x, T, t, b, rfl, ty, e, q⟩ := h
  obtain ⟨u, w', rfl, rx, ry⟩ := vals2 r
  cases (show w' = Value.type T from ry)
  exact wpAny_with_toks (Nat.le_refl _) (isinst_ok I rx ty e fun tk htk => ⟨.bl b, H, I.tok tk htk, rfl, q⟩)

/-! ### all(a list of truths) -/
theorem boolsAre_get : ∀ {bs : List Bool} {us : List Value}, Vals (bs.map V.bl) us → ∀ (i : Nat) v, us[i]? = some v → ∃ b, bs[i]? = some b ∧ v = .bool b
  | [], us, r, i, v, e => by rw [List.map_nil] at r; cases r; cases e
  | b :: bs, us, r, i, v, e => by
    rw [List.map_cons] at r
    cases r with
    | cons r1 r2 =>
      cases i with
      | zero => exact ⟨b, rfl, by have : _ = v := Option.some.inj (by simpa using e); rw [← this]; exact r1⟩
      | succ i => exact boolsAre_get r2 i v (by simpa using e)
theorem range_allB : ∀ bs : List Bool, ((List.range bs.length).all fun i => (bs[i]?).getD true) = bs.all id := by
  intro bs
  rw [Bool.eq_iff_iff, List.all_eq_true, List.all_eq_true]
  constructor
  · intro h b hb
    obtain ⟨i, hi, e⟩ := List.getElem_of_mem hb
    have q := h i (List.mem_range.mpr hi)
    rw [List.getElem?_eq_getElem hi] at q
    rw [← e]
    exact q
  · intro h i hi
    have hi' := List.mem_range.mp hi
    rw [List.getElem?_eq_getElem hi']
    exact h _ (List.getElem_mem hi')
theorem call_allB (hc : X.calm = true) : CallR X (.builtin "all") (fun xs H Q => ∃ (p : Addr) (bs : List Bool), xs = [.ref p] ∧ SqL X.K H p (bs.map V.bl) ∧ Q (.bl (bs.all id)) H) := by
  intro pins s σ H xs us Q I r h
  obtain ⟨p, bs, rfl, hq, q⟩ := h
  obtain ⟨u, rfl, rx⟩ := vals1 r
  cases rx
  obtain ⟨its, rv, pl, hz⟩ := I.list hq
  have hlen := rv.length
  rw [List.length_map] at hlen
  have hl := pl.isList
  have hlt : p < s.heap.objs.size := by obtain ⟨_, e, _⟩ := hl; exact Heap.lt_size e
  refine wpAny_with_toks (Nat.le_refl _) (call_all_walk (wpAny_pyIter_list hl ?_))
  refine ⟨s.heap.objs.size, [s.heap.objs.size, p], [s.heap.objs.size], its.toArray.size, _, _, fun i => (bs[i]?).getD true, rfl, Walks.list (A := X.A.in1) (I.ok.hd hc) _ p (Nat.ne_of_lt hlt) its.toArray,
    ⟨⟨_, Heap.get?_push_size _ rfl, rfl, rfl⟩, hl.push _⟩, fun i v s' Q' E' hP hQ => ?_, fun h' tk hk htk => ?_⟩
  · obtain ⟨b, e, rfl⟩ := boolsAre_get rv i v (by simpa using hP)
    have hQ' : Q' ((bs[i]?).getD true) s' := hQ
    rw [e] at hQ'
    exact wpAny_truthy_bool hQ'
  · have e : ((List.range its.toArray.size).all fun i => (bs[i]?).getD true) = bs.all id := by
      rw [List.size_toArray, ← hlen]; exact range_allB bs
    rw [e]
    have kp : ∀ b o, s.heap.get? b = some o → h'.get? b = some o := fun b o z =>
      hk b o (fun hm => absurd (Heap.lt_size z) (by
        have e1 : b = s.heap.objs.size := by simpa using hm
        rw [e1]
        exact Nat.lt_irrefl _)) (Heap.get?_push_of_some _ z)
    exact ⟨.bl (bs.all id), H, I.kept (t' := tk) kp htk, rfl, q⟩

/-! ### x in a text, x one sign -/
theorem op_in1 : OpR X (compareOp .In) (fun x y H Q => ∃ c z, x = .str ⟨#[c]⟩ ∧ y = .str z ∧ Q (.bl (decide (c ∈ z.cps.toList))) H) := by
  intro pins s σ H x y v u Q I rx ry h
  obtain ⟨c, z, rfl, rfl, q⟩ := h
  obtain ⟨t, rfl⟩ := rx
  obtain ⟨t', rfl⟩ := ry
  exact in_str (fin_bl I q (StrLaws.found_one z c).symm)
theorem op_notin1 : OpR X (compareOp .NotIn) (fun x y H Q => ∃ c z, x = .str ⟨#[c]⟩ ∧ y = .str z ∧ Q (.bl (!decide (c ∈ z.cps.toList))) H) := by
  intro pins s σ H x y v u Q I rx ry h
  obtain ⟨c, z, rfl, rfl, q⟩ := h
  obtain ⟨t, rfl⟩ := rx
  obtain ⟨t', rfl⟩ := ry
  exact notIn_str (fin_bl I q (by rw [StrLaws.found_one z c]))
end

/-! ### data: texts, ints, truths, tuples and lists of them, compared as a whole -/
mutual
inductive DV (K : PySem.W.Frag) (H : Hp) : V → PyData → Prop
  | non : DV K H .non .none
  | bl (b : Bool) : DV K H (.bl b) (.bool b)
  | int (i : Int) : DV K H (.int i) (.int i)
  | str (x : Str) : DV K H (.str x) (.str x)
  | old (x : Str) (a n : Nat) : DV K H (.old x a n) (.str x)
  | tup {p : Addr} {xs : List V} {ds : List PyData} : SqT K H p xs → DVs K H xs ds → DV K H (.ref p) (.tuple ds)
  | lst {p : Addr} {xs : List V} {ds : List PyData} : SqL K H p xs → DVs K H xs ds → DV K H (.ref p) (.list ds)
inductive DVs (K : PySem.W.Frag) (H : Hp) : List V → List PyData → Prop
  | nil : DVs K H [] []
  | cons {x : V} {d : PyData} {xs : List V} {ds : List PyData} : DV K H x d → DVs K H xs ds → DVs K H (x :: xs) (d :: ds)
end
section
variable {X : Cx} {pins : List (Addr × Obj)} {σ : St} {H : Hp} {s : Shared}
mutual
theorem dv_reads (I : Inv X pins σ H s) : ∀ {x : V} {d : PyData} {u : Value}, DV X.K H x d → RelV x u → ∃ as, Reads s.heap u d as
  | _, _, _, .non, r => by cases r; exact ⟨_, Reads.none⟩
  | _, _, _, .bl b, r => by cases r; exact ⟨_, Reads.bool b⟩
  | _, _, _, .int i, r => by obtain ⟨t, rfl⟩ := r; exact ⟨_, Reads.int i t⟩
  | _, _, _, .str x, r => by obtain ⟨t, rfl⟩ := r; exact ⟨_, Reads.str x t⟩
  | _, _, _, .old x _ _, r => by obtain ⟨t, rfl, _⟩ := r; exact ⟨_, Reads.str x t⟩
  | _, _, _, .tup hq hd, r => by
    cases r
    obtain ⟨its, rv, ht, _⟩ := I.tuple hq
    obtain ⟨as, ra⟩ := dvs_reads I hd rv
    obtain ⟨o, ho, hc, n, hdt⟩ := ht
    exact ⟨as, reads_tuple_at ho hc hdt (by simpa using ra)⟩
  | _, _, _, .lst hq hd, r => by
    cases r
    obtain ⟨its, rv, pl, _⟩ := I.list hq
    obtain ⟨as, ra⟩ := dvs_reads I hd rv
    obtain ⟨o, ho, hc, n, hdt⟩ := pl.isList
    exact ⟨_, reads_list_at ho hc hdt (by simpa using ra)⟩
theorem dvs_reads (I : Inv X pins σ H s) : ∀ {xs : List V} {ds : List PyData} {us : List Value}, DVs X.K H xs ds → Vals xs us → ∃ as, ReadsAll s.heap us ds as
  | _, _, _, .nil, .nil => ⟨_, ReadsAll.nil⟩
  | _, _, _, .cons hd hr, .cons r rr => by
    obtain ⟨as, ra⟩ := dv_reads I hd r
    obtain ⟨bs, rb⟩ := dvs_reads I hr rr
    exact ⟨_, ReadsAll.cons ra rb⟩
end
end
section
variable {X : Cx}
theorem op_eqD (hu : X.A.units + 64 < cLine) : OpR X (compareOp .Eq) (fun x y H Q => ∃ d e, DV X.K H x d ∧ DV X.K H y e ∧ SeqAt.shaped d = true ∧ SeqAt.shaped e = true ∧ Q (.bl (PyData.eqv d e)) H) := by
  intro pins s σ H x y v u Q I rx ry h
  obtain ⟨d, e, hd, he, sd, se, q⟩ := h
  obtain ⟨as, ra⟩ := dv_reads I hd rx
  obtain ⟨bs, rb⟩ := dv_reads I he ry
  exact eq_dataH ra rb sd se hu (fin_bl I q rfl)
theorem op_neD (hu : X.A.units + 64 < cLine) : OpR X (compareOp .NotEq) (fun x y H Q => ∃ d e, DV X.K H x d ∧ DV X.K H y e ∧ SeqAt.shaped d = true ∧ SeqAt.shaped e = true ∧ Q (.bl (!PyData.eqv d e)) H) := by
  intro pins s σ H x y v u Q I rx ry h
  obtain ⟨d, e, hd, he, sd, se, q⟩ := h
  obtain ⟨as, ra⟩ := dv_reads I hd rx
  obtain ⟨bs, rb⟩ := dv_reads I he ry
  exact ne_dataH ra rb sd se hu (fin_bl I q rfl)
end

/-! ### reading a comprehension: over items that are there as one list, each made without touching what is tracked -/
/-- J yields the items xs one by one, at every heap that has what H has, and leaves the heap -/
structure Yields (J : It) (xs : List V) (H : Hp) : Prop where
  go : ∀ H' i, Same H H' → i < xs.length → J.go i H'
  yld : ∀ H' i x H'', Same H H' → i < xs.length → J.yld i H' x H'' → H'' = H' ∧ xs[i]? = some x
  stop : ∀ H' i, Same H H' → xs.length ≤ i → J.stop i H'
theorem yields_list {K : PySem.W.Frag} {a : Addr} {xs : List V} {H : Hp} (h : SqL K H a xs) : Yields (Itl K a) xs H :=
  ⟨fun H' i e hi => ⟨xs, xs[i], e.seq h, by simp [hi]⟩, fun H' i x H'' e _ y => ⟨y.1, y.2 xs (e.seq h)⟩, fun H' i e hi => ⟨xs, e.seq h, hi⟩⟩
theorem Same.tup {K : PySem.W.Frag} {H H' : Hp} {a : Addr} {xs : List V} (e : Same H H') (h : SqT K H a xs) : SqT K H' a xs := by
  rcases h with (h | ⟨o, h⟩) | h
  · exact .inl (.inl (e _ _ h))
  · exact .inl (.inr ⟨o, e _ _ h⟩)
  · exact .inr h
theorem yields_tup {K : PySem.W.Frag} {a : Addr} {xs : List V} {H : Hp} (h : SqT K H a xs) : Yields (Itt K a) xs H :=
  ⟨fun H' i e hi => ⟨xs, xs[i], e.tup h, by simp [hi]⟩, fun H' i x H'' e _ y => ⟨y.1, y.2 xs (e.tup h)⟩, fun H' i e hi => ⟨xs, e.tup h, hi⟩⟩
def rangeV (lo : Int) (n : Nat) : List V := (List.range n).map fun (i : Nat) => V.int (lo + (i : Int))
theorem rangeV_length (lo : Int) (n : Nat) : (rangeV lo n).length = n := by unfold rangeV; rw [List.length_map, List.length_range]
theorem yields_range {lo : Int} {n : Nat} {H : Hp} : Yields (Itr lo n) (rangeV lo n) H :=
  ⟨fun H' i _ hi => by rw [rangeV_length] at hi; exact hi, fun H' i x H'' _ hi y => by
    rw [rangeV_length] at hi
    refine ⟨y.1, ?_⟩
    unfold rangeV
    rw [List.getElem?_map, List.getElem?_range hi, y.2]
    rfl, fun H' i _ hi => by rw [rangeV_length] at hi; exact hi⟩
theorem yields_str {x : Str} {H : Hp} : Yields (Its x) (signsV x) H :=
  ⟨fun H' i _ hi => by rw [signsV_length] at hi; exact hi, fun H' i v H'' _ _ y => by
    obtain ⟨y1, c, hc, y2⟩ := y
    refine ⟨y1, ?_⟩
    unfold signsV
    rw [List.getElem?_map, y2]
    have : x.cps.toList[i]? = some c := by simpa using hc
    rw [this]
    rfl, fun H' i _ hi => by rw [signsV_length] at hi; exact hi⟩
theorem same_new {H : Hp} {p : Addr} (h : H p = none) (o : HO) : Same H (upd H p o) := ⟨fun b u q => by rw [upd_ne (ne_of_none q h)]; exact q, Nat.le_refl _⟩

theorem filter_take {α : Type} (p : α → Bool) (l : List α) (i : Nat) (v : α) (h : l[i]? = some v) : (l.take (i + 1)).filter p = if p v = true then (l.take i).filter p ++ [v] else (l.take i).filter p := by
  rw [List.take_add_one, h, List.filter_append]
  cases hp : p v <;> simp [hp]
theorem paired_len {α β : Type} {F : α → β → Prop} {l₁ : List α} {l₂ : List β} (h : Paired F l₁ l₂) : l₁.length = l₂.length := Paired.length h
/-- THE READING: the new list at D holds what the items that pass make, in their order; all that was tracked is as it was. Rel hangs on tuples alone (what a turn makes, it may not change) -/
theorem comp_read {J : It} {xs : List V} {fr : List Nat} {tt : TT} {te : TE} {σ : St} {H1 : Hp} {D : Addr} {Q : VK} (Y : Yields J xs H1) (hD : H1 D = none) (hz : xs.length ≤ sizeLine)
    (p : V → Bool) (Rel : V → V → Hp → Prop) (hRel : ∀ x v H H', Rel x v H → (∀ b ys, H b = some (.tup ys) → H' b = some (.tup ys)) → Rel x v H')
    (ht : ∀ (i : Nat) x H' (Qb : Bool → Hp → Prop), xs[i]? = some x → Same H1 H' → (∀ H'', Same H' H'' → Qb (p x) H'') → tt (some x :: fr.map fun i => (σ[i]?).join) H' Qb)
    (he : ∀ (i : Nat) x H' (Qv : VK), xs[i]? = some x → p x = true → Same H1 H' → (∀ v H'', Same H' H'' → Rel x v H'' → Qv v H'') → te (some x :: fr.map fun i => (σ[i]?).join) H' Qv)
    (hQ : ∀ H' ys, Same H1 H' → H' D = some (.lst ys) → Paired (fun x v => Rel x v H') (xs.filter p) ys → Q (.ref D) H') :
    CompW J 1 fr (gName 0) tt te σ H1 D Q := by
  refine ⟨fun i m τ H => m = xs.length - i ∧ i ≤ xs.length ∧ (∃ v, τ = v :: fr.map fun i => (σ[i]?).join) ∧ Same H1 H ∧ ∃ ys, H D = some (.lst ys) ∧ Paired (fun x v => Rel x v H) ((xs.take i).filter p) ys,
    ⟨xs.length, by simp, Nat.zero_le _, ⟨none, rfl⟩, same_new hD _, [], upd_same, by simpa using Paired.nil⟩, ?_⟩
  rintro i m τ H ⟨rfl, hi, ⟨v0, rfl⟩, sm, ys, hys, hp⟩
  by_cases hlt : i < xs.length
  · refine .inr ⟨Y.go H i sm hlt, fun τ' H' => (∃ v, τ' = v :: fr.map fun i => (σ[i]?).join) ∧ Same H1 H' ∧ ∃ ys, H' D = some (.lst ys) ∧ Paired (fun x v => Rel x v H') ((xs.take (i + 1)).filter p) ys,
      fun τ' H' n => ⟨xs.length - (i + 1), by omega, rfl, hlt, n.1, n.2.1, n.2.2⟩, fun x H' y => ?_⟩
    obtain ⟨e, hx⟩ := Y.yld H i x H' sm hlt y
    subst e
    show tt (some x :: fr.map fun i => (σ[i]?).join) H' _
    have keepP : ∀ {H'' : Hp}, Same H' H'' → Paired (fun x v => Rel x v H'') ((xs.take i).filter p) ys := fun sm' => Paired.mapP hp fun a b r => hRel a b _ _ r fun c zs q => sm' c _ q
    refine ht i x H' _ hx sm fun H3 sm3 => ?_
    cases hpx : p x with
    | false =>
      rw [if_neg Bool.false_ne_true]
      refine ⟨⟨_, rfl⟩, sm.trans sm3, ys, sm3 _ _ hys, ?_⟩
      rw [filter_take p xs i x hx, hpx, if_neg Bool.false_ne_true]
      exact keepP sm3
    | true =>
      rw [if_pos rfl]
      refine he i x H3 _ hx hpx (sm.trans sm3) fun w H4 sm4 rl => ?_
      have sm34 := sm3.trans sm4
      have hys4 : H4 D = some (.lst ys) := sm34 _ _ hys
      have hl := hp.length
      have h2 : ((xs.take i).filter p).length ≤ (xs.take i).length := List.length_filter_le _ _
      have h3 : (xs.take i).length ≤ i := by rw [List.length_take]; omega
      have tupK : ∀ b zs, H4 b = some (.tup zs) → upd H4 D (.lst (ys ++ [w])) b = some (.tup zs) := fun b zs q => by
        rw [upd_ne (ne_of q hys4 (by intro z; cases z))]
        exact q
      refine ⟨ys, hys4, by omega, ⟨_, rfl⟩, ⟨fun b o q => ?_, (sm.trans sm34).ck⟩, ys ++ [w], upd_same, ?_⟩
      · rw [upd_ne (ne_of_none q hD)]
        exact (sm.trans sm34) b o q
      · rw [filter_take p xs i x hx, hpx, if_pos rfl]
        exact Paired.snoc (Paired.mapP (keepP sm34) fun a b r => hRel a b _ _ r tupK) (hRel x w _ _ rl tupK)
  · have e : i = xs.length := by omega
    subst e
    refine .inl ⟨Y.stop H _ sm (Nat.le_refl _), hQ H ys sm hys ?_⟩
    rw [List.take_length] at hp
    exact hp
theorem paired_map {f : V → V} : ∀ {l ys : List V}, Paired (fun x v => v = f x) l ys → ys = l.map f
  | _, _, .nil => rfl
  | _, _, .cons h t => by rw [List.map_cons, h, paired_map t]
/-- .. where each item is made by a function of the item alone -/
theorem comp_map {J : It} {xs : List V} {fr : List Nat} {tt : TT} {te : TE} {σ : St} {H1 : Hp} {D : Addr} {Q : VK} (Y : Yields J xs H1) (hD : H1 D = none) (hz : xs.length ≤ sizeLine)
    (p : V → Bool) (f : V → V)
    (ht : ∀ (i : Nat) x H' (Qb : Bool → Hp → Prop), xs[i]? = some x → Same H1 H' → (∀ H'', Same H' H'' → Qb (p x) H'') → tt (some x :: fr.map fun i => (σ[i]?).join) H' Qb)
    (he : ∀ (i : Nat) x H' (Qv : VK), xs[i]? = some x → p x = true → Same H1 H' → (∀ H'', Same H' H'' → Qv (f x) H'') → te (some x :: fr.map fun i => (σ[i]?).join) H' Qv)
    (hQ : ∀ H', Same H1 H' → H' D = some (.lst ((xs.filter p).map f)) → Q (.ref D) H') :
    CompW J 1 fr (gName 0) tt te σ H1 D Q :=
  comp_read Y hD hz p (fun x v _ => v = f x) (fun _ _ _ _ r _ => r) ht (fun i x H' Qv hx hp sm k => he i x H' Qv hx hp sm fun H'' sm' => k (f x) H'' sm' rfl) fun H' ys sm hd hp => hQ H' sm (by rw [hd, paired_map hp])

/-! ### for over a text, over enumerate of a text -/
theorem for_str {x : Str} {g : TG} {tb : TS} {D : Ends} {σ : St} {H : Hp} (Pv : Nat → St → Hp → Prop) (h0 : Pv 0 σ H)
    (hs : ∀ i c σ H, x.cps[i]? = some c → Pv i σ H → g (.str ⟨#[c]⟩) σ H fun σ2 H2 => tb { D with nx := Pv (i + 1), ct := Pv (i + 1), bk := D.nx } σ2 H2) (hd : ∀ σ H, Pv x.length σ H → D.nx σ H) :
    ∃ W : Nat → Nat → St → Hp → Prop, (∃ m, W 0 m σ H) ∧ ∀ i m σ H, W i m σ H →
      ((Its x).stop i H ∧ D.nx σ H) ∨ ((Its x).go i H ∧ ∃ N : St → Hp → Prop, (∀ σ' H', N σ' H' → ∃ m', m' < m ∧ W (i + 1) m' σ' H') ∧ ∀ y H', (Its x).yld i H y H' → g y σ H' fun σ2 H2 => tb { D with nx := N, ct := N, bk := D.nx } σ2 H2) := by
  refine ⟨fun i m σ H => m = x.length - i ∧ i ≤ x.length ∧ Pv i σ H, ⟨x.length, by simp, Nat.zero_le _, h0⟩, ?_⟩
  rintro i m σ H ⟨rfl, hi, p⟩
  by_cases hlt : i < x.length
  · refine .inr ⟨hlt, Pv (i + 1), fun σ' H' p' => ⟨x.length - (i + 1), by omega, rfl, hlt, p'⟩, fun v H' y => ?_⟩
    obtain ⟨e, c, hc, ev⟩ := y
    subst e ev
    exact hs i c σ _ hc p
  · have e : i = x.length := by omega
    subst e
    exact .inl ⟨Nat.le_refl _, hd σ H p⟩
theorem for_enumS {x : Str} {g : TG} {tb : TS} {D : Ends} {σ : St} {H : Hp} (Pv : Nat → St → Hp → Prop) (h0 : Pv 0 σ H)
    (hs : ∀ i c p σ H, x.cps[i]? = some c → H p = none → Pv i σ H → g (.ref p) σ (upd H p (.tup [.int i, .str ⟨#[c]⟩])) fun σ2 H2 => tb { D with nx := Pv (i + 1), ct := Pv (i + 1), bk := D.nx } σ2 H2) (hd : ∀ σ H, Pv x.length σ H → D.nx σ H) :
    ∃ W : Nat → Nat → St → Hp → Prop, (∃ m, W 0 m σ H) ∧ ∀ i m σ H, W i m σ H →
      ((Ite x).stop i H ∧ D.nx σ H) ∨ ((Ite x).go i H ∧ ∃ N : St → Hp → Prop, (∀ σ' H', N σ' H' → ∃ m', m' < m ∧ W (i + 1) m' σ' H') ∧ ∀ y H', (Ite x).yld i H y H' → g y σ H' fun σ2 H2 => tb { D with nx := N, ct := N, bk := D.nx } σ2 H2) := by
  refine ⟨fun i m σ H => m = x.length - i ∧ i ≤ x.length ∧ Pv i σ H, ⟨x.length, by simp, Nat.zero_le _, h0⟩, ?_⟩
  rintro i m σ H ⟨rfl, hi, p⟩
  by_cases hlt : i < x.length
  · refine .inr ⟨hlt, Pv (i + 1), fun σ' H' p' => ⟨x.length - (i + 1), by omega, rfl, hlt, p'⟩, fun v H' y => ?_⟩
    obtain ⟨q, c, hq, hc, ev, e⟩ := y
    subst e ev
    exact hs i c q σ H hc hq p
  · have e : i = x.length := by omega
    subst e
    exact .inl ⟨Nat.le_refl _, hd σ H p⟩
end L2

namespace L2
open PySem PySem.Spec PyProof.Rows

/-! ## ExtC: data that stand exactly so, and what makes them -/
mutual
inductive DX (H : Hp) : V → PyData → Prop
  | non : DX H .non .none
  | bl (b : Bool) : DX H (.bl b) (.bool b)
  | int (i : Int) : DX H (.int i) (.int i)
  | str (x : Str) : DX H (.str x) (.str x)
  | tup {p : Addr} {xs : List V} {ds : List PyData} : H p = some (.tup xs) → DXs H xs ds → DX H (.ref p) (.tuple ds)
  | lst {p : Addr} {xs : List V} {ds : List PyData} : H p = some (.lst xs) → DXs H xs ds → DX H (.ref p) (.list ds)
inductive DXs (H : Hp) : List V → List PyData → Prop
  | nil : DXs H [] []
  | cons {x : V} {d : PyData} {xs : List V} {ds : List PyData} : DX H x d → DXs H xs ds → DXs H (x :: xs) (d :: ds)
end
mutual
theorem dx_same {H H' : Hp} (e : Same H H') : ∀ {x : V} {d : PyData}, DX H x d → DX H' x d
  | _, _, .non => .non
  | _, _, .bl b => .bl b
  | _, _, .int i => .int i
  | _, _, .str x => .str x
  | _, _, .tup hq hd => .tup (e _ _ hq) (dxs_same e hd)
  | _, _, .lst hq hd => .lst (e _ _ hq) (dxs_same e hd)
theorem dxs_same {H H' : Hp} (e : Same H H') : ∀ {xs : List V} {ds : List PyData}, DXs H xs ds → DXs H' xs ds
  | _, _, .nil => .nil
  | _, _, .cons hd hr => .cons (dx_same e hd) (dxs_same e hr)
end
theorem dxs_len {H : Hp} : ∀ {xs : List V} {ds : List PyData}, DXs H xs ds → xs.length = ds.length
  | _, _, .nil => rfl
  | _, _, .cons _ hr => by rw [List.length_cons, List.length_cons, dxs_len hr]
theorem dxs_get {H : Hp} : ∀ {xs : List V} {ds : List PyData}, DXs H xs ds → ∀ (i : Nat) d, ds[i]? = some d → ∃ x, xs[i]? = some x ∧ DX H x d
  | _, _, .nil, i, d, e => by simp at e
  | _, _, .cons (x := x) (d := d0) hd hr, 0, d, e => by
    have e' : d0 = d := by simpa using e
    subst e'
    exact ⟨x, rfl, hd⟩
  | _, _, .cons hd hr, i + 1, d, e => by
    obtain ⟨x, h1, h2⟩ := dxs_get hr i d (by simpa using e)
    exact ⟨x, by simpa using h1, h2⟩
theorem dxs_app {H : Hp} : ∀ {xs ys : List V} {ds es : List PyData}, DXs H xs ds → DXs H ys es → DXs H (xs ++ ys) (ds ++ es)
  | _, _, _, _, .nil, h => h
  | _, _, _, _, .cons a b, h => .cons a (dxs_app b h)
/-- a datum's type -/
def tyD : PyData → String
  | .none => "NoneType"
  | .bool _ => "bool"
  | .int _ => "int"
  | .str _ => "str"
  | .tuple _ => "tuple"
  | .list _ => "list"
  | .dict _ => "dict"
theorem tyOf_dx {K : PySem.W.Frag} {H : Hp} {x : V} {d : PyData} (h : DX H x d) : TyOf K H x (.type (tyD d)) := by
  cases h with
  | non => exact .non
  | bl b => exact .bl b
  | int i => exact .int i
  | str x => exact .str x
  | tup hq _ => exact .tup hq
  | lst hq _ => exact .lst hq
/-- an expression gives a datum, whatever has been made besides since H0 -/
structure Gv (H0 : Hp) (σ : St) (te : TE) (d : PyData) : Prop where
  h : ∀ (H : Hp) (Q : VK), Same H0 H → (∀ v H', Same H H' → DX H' v d → Q v H') → te σ H Q
structure Gvs (H0 : Hp) (σ : St) (ta : TA) (ds : List PyData) : Prop where
  h : ∀ (H : Hp) (Q : List V → Hp → Prop), Same H0 H → (∀ vs H', Same H H' → DXs H' vs ds → Q vs H') → ta σ H Q
section
variable {H0 : Hp} {σ : St} {ta tb : TE} {t : TA} {d : PyData} {ds es : List PyData}
theorem gv_var {i : Nat} {v : V} (h : σ[i]? = some (some v)) (hd : DX H0 v d) : Gv H0 σ (tVar i) d := ⟨fun H Q s k => ⟨v, h, k v H (Same.refl _) (dx_same s hd)⟩⟩
theorem gv_str {x : Str} : Gv H0 σ (tC (.str x)) (.str x) := ⟨fun H Q s k => k _ H (Same.refl _) (.str x)⟩
theorem gv_int {i : Int} : Gv H0 σ (tC (.int i)) (.int i) := ⟨fun H Q s k => k _ H (Same.refl _) (.int i)⟩
theorem gv_bl {b : Bool} : Gv H0 σ (tC (.bl b)) (.bool b) := ⟨fun H Q s k => k _ H (Same.refl _) (.bl b)⟩
theorem gv_non : Gv H0 σ (tC .non) .none := ⟨fun H Q s k => k _ H (Same.refl _) .non⟩
theorem gvs_nil : Gvs H0 σ tNil [] := ⟨fun H Q s k => k [] H (Same.refl _) .nil⟩
theorem gvs_cons (h1 : Gv H0 σ ta d) (h2 : Gvs H0 σ t ds) : Gvs H0 σ (tCons ta t) (d :: ds) := ⟨fun H Q s k =>
  h1.h H _ s fun v H1 s1 d1 => h2.h H1 _ (s.trans s1) fun vs H2 s2 d2 => k (v :: vs) H2 (s1.trans s2) (.cons (dx_same s2 d1) d2)⟩
theorem gv_tup (h : Gvs H0 σ t ds) (hz : ds.length ≤ 100000 := by exact Nat.le_of_ble_eq_true rfl) : Gv H0 σ (tTup t) (.tuple ds) := ⟨fun H Q s k =>
  h.h H _ s fun vs H1 s1 dv => ⟨by
    rw [dxs_len dv]
    have : (100000 : Nat) ≤ sizeLine := by rw [sizeLine_eq]; decide
    omega, fun p hp => k (.ref p) _ (s1.trans (same_new hp _)) (.tup upd_same (dxs_same (same_new hp _) dv))⟩⟩
theorem gv_lst (h : Gvs H0 σ t ds) (hz : ds.length ≤ 100000 := by exact Nat.le_of_ble_eq_true rfl) : Gv H0 σ (tLst t) (.list ds) := ⟨fun H Q s k =>
  h.h H _ s fun vs H1 s1 dv => ⟨by
    rw [dxs_len dv]
    have : (100000 : Nat) ≤ sizeLine := by rw [sizeLine_eq]; decide
    omega, fun p hp => k (.ref p) _ (s1.trans (same_new hp _)) (.lst upd_same (dxs_same (same_new hp _) dv))⟩⟩
theorem gv_cat (h1 : Gv H0 σ ta (.list ds)) (h2 : Gv H0 σ tb (.list es)) (hz : ds.length + es.length ≤ 100000) : Gv H0 σ (tOp rCat ta tb) (.list (ds ++ es)) := ⟨fun H Q s k =>
  h1.h H _ s fun v H1 s1 d1 => h2.h H1 _ (s.trans s1) fun u H2 s2 d2 => by
    have d1' := dx_same s2 d1
    cases d1' with
    | lst hp dp =>
      cases d2 with
      | lst hq dq =>
        refine ⟨_, _, _, _, rfl, rfl, hp, hq, ?_, fun l hl => ?_⟩
        · rw [dxs_len dp, dxs_len dq]
          have : (100000 : Nat) ≤ sizeLine := by rw [sizeLine_eq]; decide
          omega
        · exact k (.ref l) _ ((s1.trans s2).trans (same_new hl _)) (.lst upd_same (dxs_same (same_new hl _) (dxs_app dp dq)))⟩
theorem gv_addS {x y : Str} (h1 : Gv H0 σ ta (.str x)) (h2 : Gv H0 σ tb (.str y)) (hz : x.length + y.length ≤ sizeLine) :
    Gv H0 σ (tOp (fun x y H Q => ∃ i j, x = .str i ∧ y = .str j ∧ i.length + j.length ≤ sizeLine ∧ Q (.str (i ++ j)) H) ta tb) (.str (x ++ y)) := ⟨fun H Q s k =>
  h1.h H _ s fun v H1 s1 d1 => h2.h H1 _ (s.trans s1) fun u H2 s2 d2 => by
    cases d1
    cases d2
    exact ⟨_, _, rfl, rfl, hz, k _ H2 (s1.trans s2) (.str _)⟩⟩
theorem gv_listOf {K : PySem.W.Frag} (h1 : Gv H0 σ ta (.tuple ds)) :
    Gv H0 σ (tCB (fun xs H Q => ∃ p ys, xs = [.ref p] ∧ (SqL K H p ys ∨ SqT K H p ys) ∧ ∀ l, H l = none → Q (.ref l) (upd H l (.lst ys))) (tCons ta tNil)) (.list ds) := ⟨fun H Q s k =>
  h1.h H _ s fun v H1 s1 d1 => by
    cases d1 with
    | tup hp dp => exact ⟨_, _, rfl, .inr (SqT.of hp), fun l hl => k (.ref l) _ (s1.trans (same_new hl _)) (.lst upd_same (dxs_same (same_new hl _) dp))⟩⟩
end
section
variable {X : Cx}
theorem dxs_signs {H : Hp} (l : List Nat) : DXs H (l.map fun c => V.str ⟨#[c]⟩) (l.map fun c => PyData.str ⟨#[c]⟩) := by
  induction l with
  | nil => exact .nil
  | cons c l ih => exact .cons (.str _) ih
/-- tuple(a text) -/
def rTupS : List V → Hp → VK → Prop := fun xs H Q => ∃ x, xs = [.str x] ∧ x.length ≤ sizeLine ∧ ∀ l, H l = none → Q (.ref l) (upd H l (.tup (signsV x)))
def rCatT2 (K : PySem.W.Frag) : R2 := fun x y H Q => ∃ a b xs ys, x = .ref a ∧ y = .ref b ∧ SqT K H a xs ∧ SqT K H b ys ∧ xs.length + ys.length ≤ sizeLine ∧
    (xs = [] → Q (.ref b) H) ∧ (xs ≠ [] → ys = [] → Q (.ref a) H) ∧ (xs ≠ [] → ys ≠ [] → ∀ p, H p = none → Q (.ref p) (upd H p (.tup (xs ++ ys))))
theorem call_tupleS (hc : X.calm = true) : CallR X (.type "tuple") rTupS := by
  intro pins s σ H xs us Q I r h
  obtain ⟨x, rfl, hz, q⟩ := h
  obtain ⟨u, rfl, t, rfl⟩ := vals1 r
  refine wpAny_with_toks (Nat.le_refl _) (call_tuple_str (I.ok.hd hc) x t (fun h' tk acc kp hi htk => ?_) hz)
  have htk : s.toks ≤ tk := htk
  have I1 : Inv X pins σ H { s with heap := h', toks := tk } := I.kept kp
  have I2 : Inv X pins σ (upd H h'.objs.size (.tup (signsV x))) { s with heap := h'.push { cls := .type "tuple", data := .seq acc }, toks := tk } :=
    I1.laid (fun b o e => Heap.get?_push_of_some _ e) (Nat.le_refl _) ⟨by rw [signsV_length]; exact hz, acc.toList, signs_vals hi, by rw [Array.toArray_toList]; exact IsTup.new _ _⟩
  exact ⟨.ref h'.objs.size, _, I2, rfl, q _ (I1.hok.fresh (Nat.le_refl _))⟩
/-- a tuple behind a tuple, either of them may be empty -/
theorem op_catT2 : OpR X (binaryOp .Add) (rCatT2 X.K) := by
  intro pins s σ H x y v u Q I rx ry h
  obtain ⟨a, b, xs, ys, rfl, rfl, ha, hb, hz, q0, q1, q2⟩ := h
  cases rx
  cases ry
  obtain ⟨its, r, ht, _⟩ := I.tuple ha
  obtain ⟨jts, r', ht', _⟩ := I.tuple hb
  have l1 := r.length
  have l2 := r'.length
  by_cases hx : xs = []
  · subst hx
    have : its = [] := by cases r; rfl
    subst this
    obtain ⟨⟨cls, dd, data, sl⟩, ho, hc, n, hd⟩ := id ht
    obtain ⟨⟨cls2, dd2, data2, sl2⟩, ho2, hc2, n2, hd2⟩ := id ht'
    simp only at hc hd hc2 hd2
    subst hc hd hc2 hd2
    exact concat_meets ⟨_, ho, rfl⟩ ⟨_, ho2, rfl⟩ noFill_tuple_add seq_tuple_add PySem.F.slot_tuple_add PySem.F.entry_tuple_add (PySem.F.args_tuple_add_2 _ _)
      (tuple_addW0 a b _ _ n n2 dd dd2 sl sl2 (by simp)) ⟨ho, ho2, .ref b, H, I, rfl, q0 rfl⟩
  · have hi : its ≠ [] := fun e => hx ((Vals.nil_iff r).mp e)
    refine HT.cat_tup ht ht' hi (fun e => ⟨.ref a, H, I, rfl, q1 hx ((Vals.nil_iff r').mp e)⟩) (fun e => ?_) (by omega)
    have I1 : Inv X pins σ (upd H s.heap.objs.size (.tup (xs ++ ys))) { s with heap := s.heap.push { cls := .type "tuple", data := .seq (its ++ jts).toArray } } :=
      I.laid (t' := s.toks) (fun c o z => Heap.get?_push_of_some _ z) (Nat.le_refl _) ⟨by rw [List.length_append]; exact hz, its ++ jts, r.append r', IsTup.new _ _⟩
    exact ⟨.ref s.heap.objs.size, _, I1, rfl, q2 hx (fun z => e ((Vals.nil_iff r').mpr z)) _ (I.hok.fresh (Nat.le_refl _))⟩
end
end L2

namespace L2
open PySem PySem.Spec PyProof.Rows
/-! ## ExtP: comprehensions by a list of things and what is made of each -/
theorem filter_map_take {α β : Type} (p : α → Bool) (f : α → β) (l : List α) (i : Nat) (v : α) (h : l[i]? = some v) : ((l.take (i + 1)).filter p).map f = if p v = true then ((l.take i).filter p).map f ++ [f v] else ((l.take i).filter p).map f := by
  rw [filter_take p l i v h]
  cases hp : p v
  · rw [if_neg Bool.false_ne_true, if_neg Bool.false_ne_true]
  · rw [if_pos rfl, if_pos rfl, List.map_append]
    rfl
/-- THE MASTER READING: the items xs stand for the things as_; each that passes p makes f of it, which Rel tells of the value made; Rel hangs on tuples alone -/
theorem comp_core {α β : Type} {J : It} {xs : List V} {as_ : List α} {fr : List Nat} {tt : TT} {te : TE} {σ : St} {H1 : Hp} {D : Addr} {Q : VK} (hlen : xs.length = as_.length) (Y : Yields J xs H1) (hD : H1 D = none) (hz : xs.length ≤ sizeLine)
    (p : α → Bool) (f : α → β) (Rel : β → V → Hp → Prop) (hRel : ∀ x v H H', Rel x v H → (∀ b ys, H b = some (.tup ys) → H' b = some (.tup ys)) → Rel x v H')
    (ht : ∀ (i : Nat) x a H' (Qb : Bool → Hp → Prop), xs[i]? = some x → as_[i]? = some a → Same H1 H' → (∀ H'', Same H' H'' → Qb (p a) H'') → tt (some x :: fr.map fun i => (σ[i]?).join) H' Qb)
    (he : ∀ (i : Nat) x a H' (Qv : VK), xs[i]? = some x → as_[i]? = some a → p a = true → Same H1 H' → (∀ v H'', Same H' H'' → Rel (f a) v H'' → Qv v H'') → te (some x :: fr.map fun i => (σ[i]?).join) H' Qv)
    (hQ : ∀ H' ys, Same H1 H' → H' D = some (.lst ys) → Paired (fun b v => Rel b v H') ((as_.filter p).map f) ys → Q (.ref D) H') :
    CompW J 1 fr (gName 0) tt te σ H1 D Q := by
  refine ⟨fun i m τ H => m = xs.length - i ∧ i ≤ xs.length ∧ (∃ v, τ = v :: fr.map fun i => (σ[i]?).join) ∧ Same H1 H ∧ ∃ ys, H D = some (.lst ys) ∧ Paired (fun b v => Rel b v H) (((as_.take i).filter p).map f) ys,
    ⟨xs.length, by simp, Nat.zero_le _, ⟨none, rfl⟩, same_new hD _, [], upd_same, by simpa using Paired.nil⟩, ?_⟩
  rintro i m τ H ⟨rfl, hi, ⟨v0, rfl⟩, sm, ys, hys, hp⟩
  by_cases hlt : i < xs.length
  · refine .inr ⟨Y.go H i sm hlt, fun τ' H' => (∃ v, τ' = v :: fr.map fun i => (σ[i]?).join) ∧ Same H1 H' ∧ ∃ ys, H' D = some (.lst ys) ∧ Paired (fun b v => Rel b v H') (((as_.take (i + 1)).filter p).map f) ys,
      fun τ' H' n => ⟨xs.length - (i + 1), by omega, rfl, hlt, n.1, n.2.1, n.2.2⟩, fun x H' y => ?_⟩
    obtain ⟨e, hx⟩ := Y.yld H i x H' sm hlt y
    subst e
    have ha : as_[i]? = some as_[i] := List.getElem?_eq_getElem (by omega)
    generalize as_[i] = a at ha
    show tt (some x :: fr.map fun i => (σ[i]?).join) H' _
    have keepP : ∀ {H'' : Hp}, Same H' H'' → Paired (fun b v => Rel b v H'') (((as_.take i).filter p).map f) ys := fun sm' => Paired.mapP hp fun a b r => hRel a b _ _ r fun c zs q => sm' c _ q
    refine ht i x a H' _ hx ha sm fun H3 sm3 => ?_
    cases hpx : p a with
    | false =>
      rw [if_neg Bool.false_ne_true]
      refine ⟨⟨_, rfl⟩, sm.trans sm3, ys, sm3 _ _ hys, ?_⟩
      rw [filter_map_take p f as_ i a ha, hpx, if_neg Bool.false_ne_true]
      exact keepP sm3
    | true =>
      rw [if_pos rfl]
      refine he i x a H3 _ hx ha hpx (sm.trans sm3) fun w H4 sm4 rl => ?_
      have sm34 := sm3.trans sm4
      have hys4 : H4 D = some (.lst ys) := sm34 _ _ hys
      have hl := hp.length
      rw [List.length_map] at hl
      have h2 : ((as_.take i).filter p).length ≤ (as_.take i).length := List.length_filter_le _ _
      have h3 : (as_.take i).length ≤ i := by rw [List.length_take]; omega
      have tupK : ∀ b zs, H4 b = some (.tup zs) → upd H4 D (.lst (ys ++ [w])) b = some (.tup zs) := fun b zs q => by
        rw [upd_ne (ne_of q hys4 (by intro z; cases z))]
        exact q
      refine ⟨ys, hys4, by omega, ⟨_, rfl⟩, ⟨fun b o q => ?_, (sm.trans sm34).ck⟩, ys ++ [w], upd_same, ?_⟩
      · rw [upd_ne (ne_of_none q hD)]
        exact (sm.trans sm34) b o q
      · rw [filter_map_take p f as_ i a ha, hpx, if_pos rfl]
        exact Paired.snoc (Paired.mapP (keepP sm34) fun a b r => hRel a b _ _ r tupK) (hRel _ w _ _ rl tupK)
  · have e : i = xs.length := by omega
    subst e
    refine .inl ⟨Y.stop H _ sm (Nat.le_refl _), hQ H ys sm hys ?_⟩
    rw [hlen, List.take_length] at hp
    exact hp
theorem paired_eq {β : Type} {f : β → V} : ∀ {l : List β} {ys : List V}, Paired (fun x v => v = f x) l ys → ys = l.map f
  | _, _, .nil => rfl
  | _, _, .cons h t => by rw [List.map_cons, h, paired_eq t]
/-- .. where what is made of a thing is a value of its own -/
theorem comp_val {α : Type} {J : It} {xs : List V} {as_ : List α} {fr : List Nat} {tt : TT} {te : TE} {σ : St} {H1 : Hp} {D : Addr} {Q : VK} (hlen : xs.length = as_.length) (Y : Yields J xs H1) (hD : H1 D = none) (hz : xs.length ≤ sizeLine)
    (p : α → Bool) (f : α → V)
    (ht : ∀ (i : Nat) x a H' (Qb : Bool → Hp → Prop), xs[i]? = some x → as_[i]? = some a → Same H1 H' → (∀ H'', Same H' H'' → Qb (p a) H'') → tt (some x :: fr.map fun i => (σ[i]?).join) H' Qb)
    (he : ∀ (i : Nat) x a H' (Qv : VK), xs[i]? = some x → as_[i]? = some a → p a = true → Same H1 H' → (∀ H'', Same H' H'' → Qv (f a) H'') → te (some x :: fr.map fun i => (σ[i]?).join) H' Qv)
    (hQ : ∀ H', Same H1 H' → H' D = some (.lst ((as_.filter p).map f)) → Q (.ref D) H') :
    CompW J 1 fr (gName 0) tt te σ H1 D Q :=
  comp_core (β := V) hlen Y hD hz p f (fun b v _ => v = b) (fun _ _ _ _ r _ => r) ht (fun i x a H' Qv hx ha hp sm k => he i x a H' Qv hx ha hp sm fun H'' sm' => k (f a) H'' sm' rfl) fun H' ys sm hd hp => hQ H' sm (by
    have e := paired_eq (f := fun b => b) hp
    rw [List.map_id'] at e
    rw [hd, e])
end L2
namespace L2
open PySem PySem.Spec PyProof.Rows
theorem gv_use {te : TE} {σ : St} {H : Hp} {Q : VK} (d : PyData) (h : Gv H σ te d) (k : ∀ v H', Same H H' → DX H' v d → Q v H') : te σ H Q := h.h H Q (Same.refl _) k
section
variable {H0 : Hp} {σ : St} {ta tb : TE} {ds es : List PyData}
theorem gv_tupS {x : Str} (h1 : Gv H0 σ ta (.str x)) (hz : x.length ≤ sizeLine) :
    Gv H0 σ (tCB (fun xs H Q => ∃ x, xs = [.str x] ∧ x.length ≤ sizeLine ∧ ∀ l, H l = none → Q (.ref l) (upd H l (.tup (signsV x)))) (tCons ta tNil)) (.tuple (x.cps.toList.map fun c => .str ⟨#[c]⟩)) := ⟨fun H Q s k =>
  h1.h H _ s fun v H1 s1 d1 => by
    cases d1
    exact ⟨_, rfl, hz, fun l hl => k (.ref l) _ (s1.trans (same_new hl _)) (.tup upd_same (dxs_signs _))⟩⟩
theorem gv_lstS {x : Str} (h1 : Gv H0 σ ta (.str x)) (hz : x.length ≤ sizeLine) :
    Gv H0 σ (tCB (fun xs H Q => ∃ x, xs = [.str x] ∧ x.length ≤ sizeLine ∧ ∀ l, H l = none → Q (.ref l) (upd H l (.lst (signsV x)))) (tCons ta tNil)) (.list (x.cps.toList.map fun c => .str ⟨#[c]⟩)) := ⟨fun H Q s k =>
  h1.h H _ s fun v H1 s1 d1 => by
    cases d1
    exact ⟨_, rfl, hz, fun l hl => k (.ref l) _ (s1.trans (same_new hl _)) (.lst upd_same (dxs_signs _))⟩⟩
theorem dxs_nil {H : Hp} {xs : List V} {ds : List PyData} (h : DXs H xs ds) : xs = [] ↔ ds = [] := by
  have := dxs_len h
  cases xs <;> cases ds <;> simp_all
theorem gv_catT {K : PySem.W.Frag} (h1 : Gv H0 σ ta (.tuple ds)) (h2 : Gv H0 σ tb (.tuple es)) (hz : ds.length + es.length ≤ 100000) :
    Gv H0 σ (tOp (fun x y H Q => ∃ a b xs ys, x = .ref a ∧ y = .ref b ∧ SqT K H a xs ∧ SqT K H b ys ∧ xs.length + ys.length ≤ sizeLine ∧
    (xs = [] → Q (.ref b) H) ∧ (xs ≠ [] → ys = [] → Q (.ref a) H) ∧ (xs ≠ [] → ys ≠ [] → ∀ p, H p = none → Q (.ref p) (upd H p (.tup (xs ++ ys))))) ta tb) (.tuple (ds ++ es)) := ⟨fun H Q s k =>
  h1.h H _ s fun v H1 s1 d1 => h2.h H1 _ (s.trans s1) fun u H2 s2 d2 => by
    have d1' := dx_same s2 d1
    cases d1' with
    | tup hp dp =>
      cases d2 with
      | tup hq dq =>
        refine ⟨_, _, _, _, rfl, rfl, SqT.of hp, SqT.of hq, ?_, fun e => ?_, fun _ e => ?_, fun _ _ p hpn => ?_⟩
        · rw [dxs_len dp, dxs_len dq]
          have : (100000 : Nat) ≤ sizeLine := by rw [sizeLine_eq]; decide
          omega
        · have e' := (dxs_nil dp).mp e
          subst e'
          exact k _ H2 (s1.trans s2) (.tup hq dq)
        · have e' := (dxs_nil dq).mp e
          subst e'
          rw [List.append_nil] at k
          exact k _ H2 (s1.trans s2) (.tup hp dp)
        · exact k _ _ ((s1.trans s2).trans (same_new hpn _)) (.tup upd_same (dxs_same (same_new hpn _) (dxs_app dp dq)))⟩
end
theorem dxs_mem {H : Hp} : ∀ {xs : List V} {ds : List PyData}, DXs H xs ds → ∀ (i : Nat) x, xs[i]? = some x → ∃ d, ds[i]? = some d ∧ DX H x d
  | _, _, .nil, i, d, e => by simp at e
  | _, _, .cons (x := x0) (d := d0) hd hr, 0, x, e => by
    have e' : x0 = x := by simpa using e
    subst e'
    exact ⟨d0, rfl, hd⟩
  | _, _, .cons hd hr, i + 1, d, e => by
    obtain ⟨x, h1, h2⟩ := dxs_mem hr i d (by simpa using e)
    exact ⟨x, by simpa using h1, h2⟩
end L2
namespace L2
open PySem PySem.Spec PyProof.Rows
/-! ### arguments and items: no star -/
def isStar : Expr → Bool
  | .Starred _ _ => true
  | _ => false
theorem star_no {e : Expr} (h : isStar e = false) (es : List Expr) (env : Env) : starEach (e :: es) env = (false, eval e env) :: starEach es env := by
  cases e <;> first | rfl | cases h
theorem pa_c {X : Cx} {e : Expr} {es : List Expr} {te : TE} {t : TA} (ha : PE X e te) (hr : PA X es t) (h : isStar e = false := by rfl) : PA X (e :: es) (tCons te t) := pa_cons ha hr (star_no h es X.env)
end L2
namespace L2
open PySem PySem.Spec PyProof.Rows
/-- for over a list that an expression makes -/
theorem for_gv {K : PySem.W.Frag} {te : TE} {g : TG} {tb : TS} {D : Ends} {σ : St} {H : Hp} {ds : List PyData} (h : Gv H σ te (.list ds))
    (k : ∀ a xs H1, Same H H1 → H1 a = some (.lst xs) → DXs H1 xs ds → ∃ W : Nat → Nat → St → Hp → Prop, (∃ m, W 0 m σ H1) ∧ ∀ i m σ H, W i m σ H →
      ((Itl K a).stop i H ∧ D.nx σ H) ∨ ((Itl K a).go i H ∧ ∃ N : St → Hp → Prop, (∀ σ' H', N σ' H' → ∃ m', m' < m ∧ W (i + 1) m' σ' H') ∧ ∀ x H', (Itl K a).yld i H x H' → g x σ H' fun σ2 H2 => tb { D with nx := N, ct := N, bk := D.nx } σ2 H2)) :
    tFor (iList K te) g tb D σ H := h.h H _ (Same.refl _) fun v H1 s1 d1 => by
  cases d1 with
  | lst hp hd => exact ⟨_, rfl, ⟨_, SqL.of hp⟩, k _ _ H1 s1 hp hd⟩
end L2
namespace L2
open PySem PySem.Spec PyProof.Rows
/-! ### data stay as they are -/
mutual
theorem dv_same {K : PySem.W.Frag} {H H' : Hp} (e : Same H H') : ∀ {x : V} {d : PyData}, DV K H x d → DV K H' x d
  | _, _, .non => .non
  | _, _, .bl b => .bl b
  | _, _, .int i => .int i
  | _, _, .str x => .str x
  | _, _, .old x a n => .old x a n
  | _, _, .tup hq hd => .tup (e.tup hq) (dvs_same e hd)
  | _, _, .lst hq hd => .lst (e.seq hq) (dvs_same e hd)
theorem dvs_same {K : PySem.W.Frag} {H H' : Hp} (e : Same H H') : ∀ {xs : List V} {ds : List PyData}, DVs K H xs ds → DVs K H' xs ds
  | _, _, .nil => .nil
  | _, _, .cons hd hr => .cons (dv_same e hd) (dvs_same e hr)
end
end L2

namespace L2
open PySem PySem.Spec PyProof.Rows
/-! ## ExtQ: the rules once more, over closed judgements (nothing unfolds them), K by name -/
structure QE (X : Cx) (e : Expr) (t : TE) : Prop where
  h : PE X e t
structure QT (X : Cx) (e : Expr) (t : TT) : Prop where
  h : PT X e t
structure QW (X : Cx) (e : Expr) (t : TT) : Prop where
  h : PW X e t
structure QA (X : Cx) (es : List Expr) (t : TA) : Prop where
  h : PA X es t
structure QS (X : Cx) (st : Stmt) (t : TS) : Prop where
  h : PS X st t
structure QSs (X : Cx) (st : List Stmt) (t : TS) : Prop where
  h : PSs X st t
structure QG (X : Cx) (e : Expr) (t : TG) : Prop where
  h : PG X e t
structure QGs (X : Cx) (es : List Expr) (t : TGs) : Prop where
  h : PGs X es t
structure QI (X : Cx) (tg iter : Expr) (wi : TI) : Prop where
  h : PI X tg iter wi
structure QO (X : Cx) (e : Option Expr) (t : TO) : Prop where
  h : PO X e t
structure QTs (X : Cx) (ifs : List Expr) (t : TT) : Prop where
  h : PTs X ifs t
/-! ### named readings of what hangs on K -/
def rLen (K : PySem.W.Frag) : List V → Hp → VK → Prop := fun xs H Q => ∃ x n, xs = [x] ∧ LenV K x H n ∧ Q (.int n) H
def rLenSeq (K : PySem.W.Frag) : List V → Hp → VK → Prop := fun xs H Q => ∃ p ys, xs = [.ref p] ∧ (SqL K H p ys ∨ SqT K H p ys) ∧ Q (.int ys.length) H
def rListOf (K : PySem.W.Frag) : List V → Hp → VK → Prop := fun xs H Q => ∃ p ys, xs = [.ref p] ∧ (SqL K H p ys ∨ SqT K H p ys) ∧ ∀ l, H l = none → Q (.ref l) (upd H l (.lst ys))
def rTupOf (K : PySem.W.Frag) : List V → Hp → VK → Prop := fun xs H Q => ∃ p ys, xs = [.ref p] ∧ ((SqL K H p ys ∧ ∀ l, H l = none → Q (.ref l) (upd H l (.tup ys))) ∨ (SqT K H p ys ∧ Q (.ref p) H))
def rAllB (K : PySem.W.Frag) : List V → Hp → VK → Prop := fun xs H Q => ∃ (p : Addr) (bs : List Bool), xs = [.ref p] ∧ SqL K H p (bs.map V.bl) ∧ Q (.bl (bs.all id)) H
def rSortedS (K : PySem.W.Frag) : List V → Hp → VK → Prop := fun xs H Q => ∃ p ss, xs = [.ref p] ∧ SqL K H p (ss.map V.str) ∧ ss.length < 64 ∧ ∀ l ss', H l = none → ss'.Perm ss → sortedS ss' = true → Q (.ref l) (upd H l (.lst (ss'.map V.str)))
def rIsInst (K : PySem.W.Frag) : List V → Hp → VK → Prop := fun xs H Q => ∃ x T t b, xs = [x, .ty T] ∧ TyOf K H x t ∧ PySem.W.kitOne K t (.type T) = some b ∧ Q (.bl b) H
def rEqD (K : PySem.W.Frag) : R2 := fun x y H Q => ∃ d e, DV K H x d ∧ DV K H y e ∧ SeqAt.shaped d = true ∧ SeqAt.shaped e = true ∧ Q (.bl (PyData.eqv d e)) H
def rNeD (K : PySem.W.Frag) : R2 := fun x y H Q => ∃ d e, DV K H x d ∧ DV K H y e ∧ SeqAt.shaped d = true ∧ SeqAt.shaped e = true ∧ Q (.bl (!PyData.eqv d e)) H
section
variable {X : Cx}
theorem c_len : CallR X (.builtin "len") (rLen X.K) := call_len
theorem c_len_seq : CallR X (.builtin "len") (rLenSeq X.K) := call_len_seq
theorem c_list_of : CallR X (.type "list") (rListOf X.K) := call_list_of
theorem c_tuple_of : CallR X (.type "tuple") (rTupOf X.K) := call_tuple_of
theorem c_all (hc : X.calm = true) : CallR X (.builtin "all") (rAllB X.K) := call_allB hc
theorem c_sorted : CallR X (.builtin "sorted") (rSortedS X.K) := call_sortedS
theorem c_isinst : CallR X (.builtin "isinstance") (rIsInst X.K) := call_isinst
theorem o_eqD (hu : X.A.units + 64 < cLine) : OpR X (compareOp .Eq) (rEqD X.K) := op_eqD hu
theorem o_neD (hu : X.A.units + 64 < cLine) : OpR X (compareOp .NotEq) (rNeD X.K) := op_neD hu
end
/-! ### no star -/
theorem star_any (pos : Pos) (env : Env) : ∀ {es : List Expr}, es.all (fun e => !isStar e) = true → (backTo pos (starEach es env)).any (·.1) = false
  | [], _ => rfl
  | e :: es, h => by
    rw [List.all_cons, Bool.and_eq_true] at h
    rw [star_no (by simpa using h.1)]
    show (false || (backTo pos (starEach es env)).any (·.1)) = false
    rw [star_any pos env h.2]
    rfl
theorem star_all (pos : Pos) (env : Env) : ∀ {es : List Expr}, es.all (fun e => !isStar e) = true → (backTo pos (starEach es env)).all (fun x => !x.1) = true
  | [], _ => rfl
  | e :: es, h => by
    rw [List.all_cons, Bool.and_eq_true] at h
    rw [star_no (by simpa using h.1)]
    show (true && (backTo pos (starEach es env)).all (fun x => !x.1)) = true
    rw [star_all pos env h.2]
    rfl
section
variable {X : Cx} {a b c e o : Expr} {es : List Expr} {ta tb te to : TE} {t : TA} {tA tB' : TT} {pos p apos cpos p2 : Pos} {rest : List Expr} {K : PySem.W.Frag}
/-! ### expressions -/
theorem qv (i : Nat) {x : Str} {pos : Pos} (hN : X.N[i]? = some x := by rfl) (hv : Vis X.env.scope x := by first | exact Or.inl rfl | exact Or.inr (Or.inl rfl) | exact Or.inr (Or.inr rfl)) (hd : (x == ("__debug__" : Str)) = false := by decide)
    (hcd : (x == ("__classdict__" : Str)) = false := by decide) : QE X (.Name x pos) (tVar i) := ⟨pe_var hN hv hd hcd⟩
theorem qe_int {i j pos} : QE X (.Constant (.int i) j pos) (tC (.int i)) := ⟨pe_int⟩
theorem qe_bl {b j pos} : QE X (.Constant (.bool b) j pos) (tC (.bl b)) := ⟨pe_bl⟩
theorem qe_non {j pos} : QE X (.Constant .none j pos) (tC .non) := ⟨pe_non⟩
theorem qe_str {x j pos} : QE X (.Constant (.str x) j pos) (tC (.str x)) := ⟨pe_str⟩
theorem qe_glob {x : Str} {v : V} {u : Value} {pos : Pos} (hg : Gl X x) (hm : X.mg x = some u) (r : RelV v u) (hd : (x == ("__debug__" : Str)) = false := by decide) : QE X (.Name x pos) (tC v) := ⟨pe_glob hg hm r hd⟩
theorem qe_bltn {x : Str} {v : V} {u : Value} {pos : Pos} (hg : Gl X x) (hm : X.mg x = none) (hv : bootBuiltins x = some u) (r : RelV v u) (hn : x ≠ "__name__" := by decide) (hd : (x == ("__debug__" : Str)) = false := by decide) : QE X (.Name x pos) (tC v) := ⟨pe_bltn hg hm hv r hn hd⟩
theorem qe_op {op : Operator} {r : R2} (ho : OpR X (binaryOp op) r) (ha : QE X a ta) (hb : QE X b tb) : QE X (.BinOp a op b pos) (tOp r ta tb) := ⟨pe_op ho ha.h hb.h⟩
theorem qe_un {op : UnaryOp} {r : V → Hp → VK → Prop} (ho : UnR X (unaryOp op) r) (ha : QE X a ta) : QE X (.UnaryOp op a pos) (tUn r ta) := ⟨pe_un ho ha.h⟩
theorem qe_cmp {op : CmpOp} {r : R2} (ho : OpR X (compareOp op) r) (ha : QE X a ta) (hb : QE X b tb) (hm : behindInMarks op b = false) : QE X (.Compare a [op] [b] pos) (tOp r ta tb) := ⟨pe_cmpR ho ha.h hb.h hm⟩
theorem qt_cmp {op : CmpOp} {r : R2} (ho : OpR X (compareOp op) r) (ha : QE X a ta) (hb : QE X b tb) (hm : behindInMarks op b = false) : QT X (.Compare a [op] [b] pos) (tTest (tOp r ta tb)) := ⟨pt_cmpR ho ha.h hb.h hm⟩
theorem qt_val {e : Expr} {t : TE} (h : QE X e t) (he : ∀ whole, isTrue e X.env whole = (do let v ← whole; standAt e.pos; holding [v] (truthy v)) := by intro _; rfl) : QT X e (tB t) := ⟨pt_val h.h he⟩
def tTru (K : PySem.W.Frag) (ta : TE) : TT := fun σ H Q => ta σ H fun x H' => ∃ k, TruV K x H' k ∧ Q k H'
theorem qt_truth (K : PySem.W.Frag) (ha : QE X a ta) (hK : X.K = K := by rfl) (he : ∀ whole, isTrue a X.env whole = (do let v ← whole; standAt a.pos; holding [v] (truthy v)) := by intro _; rfl) : QT X a (tTru K ta) := by
  subst hK
  exact ⟨pt_truth ha.h he⟩
theorem qw_pt {e : Expr} {t : TT} (h : QW X e t) : QT X e t := ⟨h.h.pt⟩
theorem qw_and1 (ha : QT X a tA) : QW X (.BoolOp .And [a] pos) tA := ⟨pw_and1 ha.h⟩
theorem qw_or1 (ha : QT X a tA) : QW X (.BoolOp .Or [a] pos) tA := ⟨pw_or1 ha.h⟩
theorem qw_and (ha : QT X a tA) (hb : QW X (.BoolOp .And (b :: rest) pos) tB') : QW X (.BoolOp .And (a :: b :: rest) pos) (tAnd tA tB') := ⟨pw_and ha.h hb.h⟩
theorem qw_or (ha : QT X a tA) (hb : QW X (.BoolOp .Or (b :: rest) pos) tB') : QW X (.BoolOp .Or (a :: b :: rest) pos) (tOr tA tB') := ⟨pw_or ha.h hb.h⟩
theorem qt_not (ha : QT X a tA) : QT X (.UnaryOp .Not a pos) (tNot tA) := ⟨pt_not ha.h⟩
theorem qe_one {op} {t : TE} (h : QE X a t) : QE X (.BoolOp op [a] pos) t := ⟨pe_one h.h⟩
theorem qe_and (ha : QE X a ta) (hb : QE X (.BoolOp .And (b :: rest) pos) tb) : QE X (.BoolOp .And (a :: b :: rest) pos) (tAndV ta tb) := ⟨pe_and ha.h hb.h⟩
theorem qe_or (ha : QE X a ta) (hb : QE X (.BoolOp .Or (b :: rest) pos) tb) : QE X (.BoolOp .Or (a :: b :: rest) pos) (tOrV ta tb) := ⟨pe_or ha.h hb.h⟩
theorem qe_not (ha : QE X a ta) : QE X (.UnaryOp .Not a pos) (tNotV ta) := ⟨pe_not ha.h⟩
theorem qe_ifExp {c : Expr} (hc : QT X c tA) (ha : QE X a ta) (hb : QE X b tb) : QE X (.IfExp c a b pos) (tIf tA ta tb) := ⟨pe_ifExp hc.h ha.h hb.h⟩
theorem qa_nil : QA X [] tNil := ⟨pa_nil⟩
theorem qa_cons (ha : QE X e te) (hr : QA X es t) (h : isStar e = false := by rfl) : QA X (e :: es) (tCons te t) := ⟨pa_cons ha.h hr.h (star_no h es X.env)⟩
theorem qe_tup {x1} (h : QA X es t) : QE X (.Tuple es x1 pos) (tTup t) := ⟨pe_tup h.h⟩
theorem qe_lst (h : QA X es t) : QE X (.List es pos) (tLst t) := ⟨pe_lst h.h⟩
theorem qe_ix {r : R2} (hr : IxR X r) (ha : QE X a ta) (hb : QE X b tb) (hs : PlainIx b := by intro _ _; rfl) : QE X (.Subscript a b pos) (tOp r ta tb) := ⟨pe_ix hr ha.h hb.h hs⟩
theorem qo_none : QO X none tNoPart := ⟨po_none⟩
theorem qo_some (h : QE X e te) : QO X (some e) (tPart te) := ⟨po_some h.h⟩
theorem qe_slice {lo hi : Option Expr} {tl th : TO} {r : V → Option Int → Option Int → Hp → VK → Prop} (hr : SlR X r) (he : QE X e te) (hl : QO X lo tl) (hu : QO X hi th) : QE X (.Subscript e (.Slice lo hi none p2) pos) (tSl r te tl th) := ⟨pe_slice hr he.h hl.h hu.h⟩
end
section
variable {X : Cx} {CX : CXT} {k : Nat} {f : Addr} {fd : FuncData} {ps : List Str} {sp : Sp} {dvs : List V} {ds : List Value} {E : XK} {x name : Str} {p pos apos cpos : Pos} {e o : Expr} {es : List Expr} {t : TA} {to : TE} {id T : String}
/-! ### calls -/
theorem qe_call (F : FnOk X.prog X.w X.K X.mg X.base CX k f fd ps sp) (hr : Room k X.A) (hg : Gl X x) (hm : X.mg x = some (.ref f)) (hk : PySem.W.keepIn X.K (.ref f) = true) (hb : Binds X.K fd ps ds) (hd : Vals dvs ds) (hx : Passes CX X E)
    (ha : QA X (e :: es) t) (hdb : (x == ("__debug__" : Str)) = false := by decide) (he : isStar e = false := by rfl) (hpl : es.all (fun e => !isStar e) = true := by rfl) :
    QE X (.Call (.Name x p) (e :: es) [] pos) (tCall sp dvs E t) := ⟨pe_call F hr hg hm hk hb hd hx ha.h hdb (star_no he es X.env) (star_any pos X.env hpl)⟩
theorem qe_callB {r : List V → Hp → VK → Prop} (hc : CallR X (.builtin id) r) (hg : Gl X x) (hm : X.mg x = none) (hv : bootBuiltins x = some (.builtin id)) (ha : QA X (e :: es) t) (hn : x ≠ "__name__" := by decide) (hdb : (x == ("__debug__" : Str)) = false := by decide)
    (he : isStar e = false := by rfl) (hpl : es.all (fun e => !isStar e) = true := by rfl) : QE X (.Call (.Name x p) (e :: es) [] pos) (tCB r t) := ⟨pe_callB hc hg hm hv ha.h hn hdb (star_no he es X.env) (star_any pos X.env hpl)⟩
theorem qe_callTy {r : List V → Hp → VK → Prop} (hc : CallR X (.type T) r) (hg : Gl X x) (hm : X.mg x = none) (hv : bootBuiltins x = some (.type T)) (ha : QA X (e :: es) t) (hn : x ≠ "__name__" := by decide) (hdb : (x == ("__debug__" : Str)) = false := by decide)
    (he : isStar e = false := by rfl) (hpl : es.all (fun e => !isStar e) = true := by rfl) : QE X (.Call (.Name x p) (e :: es) [] pos) (tCB r t) := ⟨pe_callTy hc hg hm hv ha.h hn hdb (star_no he es X.env) (star_any pos X.env hpl)⟩
theorem qe_bm (K : PySem.W.Frag) {r : V → List V → Hp → VK → Prop} (pa : PlainAttrs T) (slot : Slot T name id) (hty : typeOf (.builtin id) = pure (.type "method_descriptor")) (hm : MtR X id r) (ho : QE X o to) (ha : QA X (e :: es) t)
    (hK : X.K = K := by rfl) (hbase : attributeBase o name X.env (eval o X.env) = eval o X.env := by rfl)
    (hne : (e :: es).all (fun e => !isStar e) = true := by rfl) (hlen : decide ((e :: es).length + ([] : List Keyword).length + (if ([] : List Keyword).isEmpty then 0 else 1) < 30) = true := by rfl)
    (hline : (apos.endLine == cpos.line) = true := by rfl) (he : isStar e = false := by rfl) (hpl : es.all (fun e => !isStar e) = true := by rfl) :
    QE X (.Call (.Attribute o name apos) (e :: es) [] cpos) (tBM K T r to t) := by
  subst hK
  refine ⟨pe_bm pa slot hty hm ho.h ha.h hbase ?_ hline (star_no he es X.env) (star_any cpos X.env hpl)⟩
  rw [star_all cpos X.env hne, hlen]
  rfl
theorem qe_bm0 (K : PySem.W.Frag) {r : V → List V → Hp → VK → Prop} (pa : PlainAttrs T) (slot : Slot T name id) (hty : typeOf (.builtin id) = pure (.type "method_descriptor")) (hm : MtR X id r) (ho : QE X o to)
    (hK : X.K = K := by rfl) (hbase : attributeBase o name X.env (eval o X.env) = eval o X.env := by rfl) (hline : (apos.endLine == cpos.line) = true := by rfl) : QE X (.Call (.Attribute o name apos) [] [] cpos) (tBM0 K T r to) := by
  subst hK
  exact ⟨pe_bm0 pa slot hty hm ho.h hbase hline⟩
end
/-! ### targets, walks, statements -/
section
variable {X : Cx} {st : Stmt} {rest : List Stmt} {t u : TS} {e tg : Expr} {te : TE} {pos : Pos}
theorem qg_name {i : Nat} {x : Str} (hN : X.N.Nodup) (hi : X.N[i]? = some x) (hx : Loc X.env.scope x) (hf : X.fn x = true ∨ X.env.scope.names.lookup x = some .local := by first | exact .inl rfl | exact .inr rfl | assumption) : QG X (.Name x pos) (gName i) := ⟨pg_name hN hi hx hf⟩
theorem qgs_nil : QGs X [] gNil := ⟨pgs_nil⟩
theorem qgs_cons {e : Expr} {es : List Expr} {t : TG} {u : TGs} (h1 : QG X e t) (h2 : QGs X es u)
    (hs : (assignEach (e :: es) X.env).map (·.2) = assign e X.env :: (assignEach es X.env).map (·.2) := by rfl) : QGs X (e :: es) (gCons t u) := ⟨pgs_cons h1.h h2.h hs⟩
theorem qg_tup (K : PySem.W.Frag) {es : List Expr} {k : Nat} {t : TGs} {n : Nat} (hc : X.calm = true) (h : QGs X es t) (hK : X.K = K := by rfl)
    (hn : (assignEach es X.env).length = n := by rfl) (hst : (assignEach es X.env).findIdx? (·.1) = none := by rfl) : QG X (.Tuple es k pos) (gTup K n t) := by
  subst hK
  exact ⟨pg_tup hc h.h hn hst⟩
theorem qi_list (K : PySem.W.Frag) {l : Expr} {tl : TE} (hl : QE X l tl) (hK : X.K = K := by rfl) : QI X tg l (iList K tl) := by
  subst hK
  exact ⟨pi_list hl.h⟩
theorem qi_tup (K : PySem.W.Frag) {l : Expr} {tl : TE} (hl : QE X l tl) (hK : X.K = K := by rfl) : QI X tg l (iTup K tl) := by
  subst hK
  exact ⟨pi_tup hl.h⟩
theorem qi_str {e : Expr} {te : TE} (he : QE X e te) : QI X tg e (iStr te) := ⟨pi_str he.h⟩
theorem qi_range1 {a : Expr} {ta : TA} {p pos : Pos} (hg : Gl X "range") (hm : X.mg "range" = none) (ha : QA X [a] ta) (hs : isStar a = false := by rfl) : QI X tg (.Call (.Name "range" p) [a] [] pos) (iRng1 ta) := ⟨pi_range1 hg hm ha.h (star_no hs [] X.env)⟩
theorem qi_range2 {a b : Expr} {ta : TA} {p pos : Pos} (hg : Gl X "range") (hm : X.mg "range" = none) (ha : QA X [a, b] ta) (hs : isStar a = false := by rfl) (hs2 : isStar b = false := by rfl) : QI X tg (.Call (.Name "range" p) [a, b] [] pos) (iRng2 ta) :=
  ⟨pi_range2 hg hm ha.h (by rw [star_no hs, star_no hs2]; rfl) (star_no hs2 [] X.env)⟩
theorem qi_enumS {es : List Expr} {k : Nat} {tp : Pos} {a : Expr} {ta : TA} {p pos : Pos} (hg : Gl X "enumerate") (hm : X.mg "enumerate" = none) (ha : QA X [a] ta) (hs : isStar a = false := by rfl) :
    QI X (.Tuple es k tp) (.Call (.Name "enumerate" p) [a] [] pos) (iEnumS ta) := ⟨pi_enumS hg hm ha.h (star_no hs [] X.env)⟩
theorem qss_nil : QSs X [] tNext := ⟨pss_nil⟩
theorem qss_cons (h1 : QS X st t) (h2 : QSs X rest u) : QSs X (st :: rest) (tSeq t u) := ⟨pss_cons h1.h h2.h⟩
theorem qss_one (h1 : QS X st t) : QSs X [st] t := ⟨pss_one h1.h⟩
theorem qss_never {sts : List Stmt} : QSs X sts tNever := ⟨pss_never⟩
theorem qs_pass : QS X (.Pass pos) tNext := ⟨ps_pass⟩
theorem qs_break : QS X (.Break pos) tBreak := ⟨ps_break⟩
theorem qs_continue : QS X (.Continue pos) tCont := ⟨ps_continue⟩
theorem qs_expr (he : QE X e te) (hs : swapsWith e none pos.line X.env = pure false := by rfl) : QS X (.Expr e pos) (tDrop te) := ⟨ps_expr he.h hs⟩
theorem qs_ret (he : QE X e te) : QS X (.Return (some e) pos) (tRet te) := ⟨ps_ret he.h⟩
theorem qs_retN : QS X (.Return none pos) tRetN := ⟨ps_retN⟩
theorem qs_if {c : Expr} {a b : List Stmt} {tc : TT} (hc : QT X c tc) (ha : QSs X a t) (hb : QSs X b u) : QS X (.If c a b pos) (tIfS tc t u) := ⟨ps_if hc.h ha.h hb.h⟩
theorem qs_asg {tg e : Expr} {te : TE} {g : TG} (he : QE X e te) (hg : QG X tg g) (hs : swapsWithSole [tg] e pos.line X.env = pure false := by rfl) (hw : swappedStores [tg] e X.env = pure none := by rfl)
    (h1 : (assignEach [tg] X.env).map (·.2) = [assign tg X.env] := by rfl) : QS X (.Assign [tg] e pos) (tAsg te g) := ⟨ps_asg he.h hg.h hs hw h1⟩
theorem qs_set {i : Nat} {x : Str} {e : Expr} {te : TE} {pos' : Pos} (hN : X.N.Nodup) (hi : X.N[i]? = some x) (hx : Loc X.env.scope x) (he : QE X e te) (hs : swapsWith e (some (.Name x pos')) pos.line X.env = pure false := by rfl) (hf : X.fn x = true ∨ X.env.scope.names.lookup x = some .local := by first | exact .inl rfl | exact .inr rfl | assumption) :
    QS X (.Assign [.Name x pos'] e pos) (tAsg te (gName i)) := ⟨ps_set hN hi hx he.h hs hf⟩
theorem qs_aug {i : Nat} {x : Str} {e : Expr} {te : TE} {op : Operator} {ti : TIp} {pos' : Pos} (hN : X.N.Nodup) (hi : X.N[i]? = some x) (hx : Loc X.env.scope x) (he : QE X e te) (ho : PIp X op ti) (hf : X.fn x = true ∨ X.env.scope.names.lookup x = some .local := by first | exact .inl rfl | exact .inr rfl | assumption) :
    QS X (.AugAssign (.Name x pos') op e pos) (tAug i te ti) := ⟨ps_aug hN hi hx he.h ho hf⟩
theorem qs_for {iter : Expr} {body : List Stmt} {wi : TI} {g : TG} {tb : TS} {pos : Pos} (hp : PassesOwn (model X.prog X.w) X.A X.env X.xe) (hc : X.calm = true) (hi : QI X tg iter wi) (hg : QG X tg g) (hb : QSs X body tb)
    (hs : ∀ x, foldedSetIterable iter X.env x = pure x := by intro _; rfl) : QS X (.For tg iter body [] pos) (tFor wi g tb) := ⟨ps_for hp hc hi.h hg.h hb.h hs⟩
theorem qs_while {c : Expr} {body : List Stmt} {tc : TT} {tb : TS} (hp : PassesOwn (model X.prog X.w) X.A X.env X.xe) (hc : QT X c tc) (hb : QSs X body tb) : QS X (.While c body [] pos) (tWhile tc tb) := ⟨ps_while hp hc.h hb.h⟩
end
/-! ### comprehensions -/
theorem qts_nil {X : Cx} : QTs X [] tYes := ⟨pts_nil⟩
theorem qts_one {X : Cx} {c : Expr} {t : TT} (h : QT X c t) : QTs X [c] t := ⟨pts_one h.h⟩
theorem qe_comp {X : Cx} {elt tgt iter : Expr} {ifs : List Expr} {scope : Scope} {pos : Pos} {N : List Str} {k : Nat} {fr : List Nat} {wi : TI} {g : TG} {tt : TT} {te : TE}
    (B : blkB X.N X.env.scope scope N k fr = true) (hc : X.calm = true) (hi : QI X tgt iter wi)
    (hg : ∀ cl C fp s H, QG (X.blk N scope cl C fp s H) tgt g) (ht : ∀ cl C fp s H, QTs (X.blk N scope cl C fp s H) ifs tt) (he : ∀ cl C fp s H, QE (X.blk N scope cl C fp s H) elt te)
    (hs : ∀ x, foldedSetIterable iter X.env x = pure x := by intro _; rfl) :
    QE X (.ListComp elt [⟨tgt, iter, ifs, 0⟩] scope pos) (tComp wi k fr g tt te) := ⟨pe_comp B hc hi.h (fun a b c d e => (hg a b c d e).h) (fun a b c d e => (ht a b c d e).h) (fun a b c d e => (he a b c d e).h) hs⟩
def tSetComp (i : Nat) (wi : TI) (k : Nat) (fr : List Nat) (g : TG) (tt : TT) (te : TE) : TS := fun D σ H => tComp wi k fr g tt te σ H fun v H' => D.nx (σ.set i (some v)) H'
theorem qs_setComp {X : Cx} {i : Nat} {y : Str} {elt tgt iter : Expr} {ifs : List Expr} {scope : Scope} {pos py pos' : Pos} {N : List Str} {k : Nat} {fr : List Nat} {wi : TI} {g : TG} {tt : TT} {te : TE}
    (hN : X.N.Nodup) (hiy : X.N[i]? = some y) (hy : Loc X.env.scope y)
    (B : blkB X.N X.env.scope scope N k fr = true) (hc : X.calm = true) (hi : QI X tgt iter wi)
    (hg : ∀ cl C fp s H, QG (X.blk N scope cl C fp s H) tgt g) (ht : ∀ cl C fp s H, QTs (X.blk N scope cl C fp s H) ifs tt) (he : ∀ cl C fp s H, QE (X.blk N scope cl C fp s H) elt te)
    (hsw : swapsWith (.ListComp elt [⟨tgt, iter, ifs, 0⟩] scope pos) (some (.Name y py)) pos'.line X.env = pure true)
    (hs : ∀ x, foldedSetIterable iter X.env x = pure x := by intro _; rfl)
    (hf : X.fn y = true ∨ X.env.scope.names.lookup y = some .local := by first | exact .inl rfl | exact .inr rfl | assumption) :
    QS X (.Assign [.Name y py] (.ListComp elt [⟨tgt, iter, ifs, 0⟩] scope pos) pos') (tSetComp i wi k fr g tt te) :=
  ⟨ps_setComp hN hiy hy B hc hi.h (fun a b c d e => (hg a b c d e).h) (fun a b c d e => (ht a b c d e).h) (fun a b c d e => (he a b c d e).h) hsw hs hf⟩
/-! ### a def -/
section
variable {P : Program} {w : World} {K : PySem.W.Frag} {mg : Str → Option Value} {base : Heap}
theorem Fun.okQ {x qual : Str} {st : Stmt} {f : Addr} {fd : FuncData} {N ps : List Str} {k : Nat} {sp : Sp} (F : Fun K x qual st f fd) (S : FnScope N ps (defScope st)) (len : ∀ vs H Q E, sp vs H Q E → vs.length = ps.length)
    (hbody : ∀ (cdv : Value) (A : Around) (outer : List Env) (s : Shared) (H : Hp) (vs : List V) (Q : VK) (E : XK), Room k (A.deeper (envOfC qual (defScope st) s.heap.objs.size f cdv)) → sp vs H Q E →
      ∃ t, QSs (cxOf CX0 P w K mg base N qual (defScope st) f cdv A outer s H E).nox (defBody st) t ∧ t { nx := fun _ H' => Q .non H', rt := Q } (start N vs) H) : FnOk P w K mg base CX0 (k + 1) f fd ps sp :=
  F.ok S len fun cdv A outer s H vs Q E hr hsp => let ⟨t, h, q⟩ := hbody cdv A outer s H vs Q E hr hsp; ⟨t, h.h, q⟩
end
end L2
namespace L2
open PySem PySem.Spec PyProof.Rows
def tSliceBy (te tl : TE) : TE := fun σ H Q => te σ H fun x H1 => tl σ H1 fun i H2 => ∃ z n, x = .str z ∧ i = .int n ∧ z.length ≤ sizeLine ∧ ∀ y : Str, y.length ≤ z.length → Q (.str y) H2
theorem qe_sliceBy {X : Cx} {e : Expr} {te : TE} {lo step : Expr} {tl : TE} {k : Int} {p2 pos : Pos} (he : QE X e te) (hl : QE X lo tl) (hk : QE X step (tC (.int k))) (h0 : (k == 0) = false) :
    QE X (.Subscript e (.Slice (some lo) none (some step) p2) pos) (tSliceBy te tl) := ⟨pe_sliceBy he.h hl.h hk.h h0⟩
end L2

namespace L2
open PySem PySem.Spec PyProof.Rows
/-! ## ExtR: sorted(a text), a text's index, backward -/
section
variable {prog : Program} {w : World} {A : Around} {E : Value → Shared → Prop} {s : Shared}
theorem signs_strs {x : Str} {acc : Array Value} (h : ItemsOf (SignAt x) acc x.cps.size) : StrsAre acc.toList (x.cps.toList.map fun c => (⟨#[c]⟩ : Str)) := by
  have r := signs_vals h
  unfold signsV at r
  have e : (x.cps.toList.map fun c => V.str ⟨#[c]⟩) = (x.cps.toList.map fun c => (⟨#[c]⟩ : Str)).map V.str := by rw [List.map_map]; rfl
  rw [e] at r
  exact strsAre_of r
theorem sorted_text {x : Str} {t : Tok} {Q : Value → Shared → Prop} (hh : A.in1.handled = none) (h64 : x.cps.size < 64)
    (h : ∀ (s' : Shared) (h' : Heap) (out : Array Value) (ss' : List Str) e, (∀ b o, s.heap.get? b = some o → s'.heap.get? b = some o) → s'.gens = s.gens → s'.drawn = s.drawn → s'.os = s.os → (∀ b o, s'.heap.get? b = some o → h'.get? b = some o) → h'.get? s'.heap.objs.size = some (seqObj "list" out e) →
      StrsAre out.toList ss' → ss'.Perm (x.cps.toList.map fun c => (⟨#[c]⟩ : Str)) → sortedS ss' = true → Q (.ref s'.heap.objs.size) { s' with heap := h' }) :
    wpAny (model prog w) A (call (.builtin "sorted") [.str x t]) Q E s := by
  refine Calls.call_function_entry kind_sorted plain_sorted entry_sorted (args_sorted1 _) ?_
  unfold Builtin.«sorted»
  refine wpAny_bind (m := checkCount "sorted" 1 1 _) (wpAny_pure ?_)
  refine wpAny_bind (wpAny_collect_str hh x t (fun s' acc kp hg hd hos hi => ?_) (by rw [sizeLine_eq]; omega))
  have hS := signs_strs hi
  have hl : acc.toList.length = x.cps.size := by
    rw [Array.length_toList]
    exact hi.1
  refine wpAny_bind (wpAny_newList ?_ (by rw [sizeLine_eq]; omega))
  have hoL : (s'.heap.push (seqObj "list" acc.toList.toArray 0)).get? s'.heap.objs.size = some (seqObj "list" acc.toList.toArray 0) := Heap.get?_push_size _ rfl
  refine wpAny_bind (wpAny_holding (wpAny_call_entry slot_list_sort ⟨_, hoL, rfl⟩ entry_list_sort (list_sort_treeK strKind_oneLt hoL hS.keysOf (fun v₁ v₂ rest e => keyKind_strs (by rw [← e]; exact hS)) (by omega) fun st' a1 a2 => ⟨_, rfl, ?_⟩) (args_list_sort _)))
  obtain ⟨ss', h1, h2, h3⟩ := sorted_out_str hS a1 a2
  obtain ⟨e, he⟩ := sortedHeap_at (out := (arrOf st').map (·.2)) hoL
  refine wpAny_pure ⟨_, rfl, h s' _ _ ss' e kp hg hd hos (fun b o q => ?_) he h1 h2 h3⟩
  have hlt := Heap.lt_size q
  rw [sortedHeap_old (Nat.ne_of_lt hlt) (by rw [size_push']; exact Nat.lt_succ_of_lt hlt), Heap.get?_push_ne _ _ _ (Nat.ne_of_lt hlt)]
  exact q
end
section
variable {X : Cx}
def rSortedT : List V → Hp → VK → Prop := fun xs H Q => ∃ x, xs = [.str x] ∧ x.length < 64 ∧ ∀ l ss', H l = none → ss'.Perm (x.cps.toList.map fun c => (⟨#[c]⟩ : Str)) → sortedS ss' = true → Q (.ref l) (upd H l (.lst (ss'.map V.str)))
theorem c_sortedT (hc : X.calm = true) : CallR X (.builtin "sorted") rSortedT := by
  intro pins s σ H xs us Q I r h
  obtain ⟨x, rfl, h64, q⟩ := h
  obtain ⟨u, rfl, t, rfl⟩ := vals1 r
  refine wpAny_with_toks (Nat.le_refl _) (sorted_text (I.ok.hd hc) h64 fun s' h' out ss' e kp hg hd hos kp2 he h1 h2 h3 htk => ?_)
  have htk : s.toks ≤ s'.toks := htk
  have es : s' = { s with heap := s'.heap, toks := s'.toks } := by
    cases s; cases s'
    simp only at hg hd hos
    subst hg hd hos
    rfl
  have hlen : ss'.length ≤ sizeLine := by
    rw [h2.length_eq, List.length_map, Array.length_toList]
    have : x.cps.size < 64 := h64
    rw [sizeLine_eq]
    omega
  have I1 : Inv X pins σ H s' := by
    rw [es]
    exact I.kept (t' := s'.toks) kp htk
  have I2 : Inv X pins σ (upd H s'.heap.objs.size (.lst (ss'.map V.str))) { s' with heap := h' } :=
    I1.laid (t' := s'.toks) kp2 (Nat.le_refl _) ⟨by rw [List.length_map]; exact hlen, out.toList, e, vals_strs h1, by rw [Array.toArray_toList]; exact he⟩
  exact ⟨.ref s'.heap.objs.size, _, I2, rfl, q _ ss' (I1.hok.fresh (Nat.le_refl _)) h2 h3⟩
/-! ### a sign's first place -/
theorem occ_keep (x y : Str) (hi : Nat) : ∀ (l : List Nat) (st : Array Nat × Nat), 1 ≤ st.fst.size → (forIn l st (StrLaws.occBody x y hi 1)).run = st
  | [], st, _ => rfl
  | a :: l, st, h => by
    rw [List.forIn_cons]
    unfold StrLaws.occBody
    rw [if_neg (fun z => absurd z.1.1.1 (by omega))]
    exact occ_keep x y hi l st h
theorem occ_skip (x y : Str) (hi : Nat) (m : List Nat) : ∀ (l : List Nat) (free : Nat), (∀ i ∈ l, ¬ (i + y.length ≤ hi ∧ Builtin.Str.subAt x y i = true)) → (forIn (l ++ m) ((#[] : Array Nat), free) (StrLaws.occBody x y hi 1)).run = (forIn m ((#[] : Array Nat), free) (StrLaws.occBody x y hi 1)).run
  | [], _, _ => rfl
  | a :: l, free, h => by
    rw [List.cons_append, List.forIn_cons]
    unfold StrLaws.occBody
    rw [if_neg (fun z => h a List.mem_cons_self ⟨z.1.2, z.2⟩)]
    exact occ_skip x y hi m l free fun i hi' => h i (List.mem_cons_of_mem _ hi')
theorem occ_one {p q : List Nat} {c : Nat} (hp : c ∉ p) : Builtin.Str.occurrences (⟨(p ++ c :: q).toArray⟩ : Str) ⟨#[c]⟩ 0 (⟨(p ++ c :: q).toArray⟩ : Str).length 1 = [p.length] := by
  generalize hx : (⟨(p ++ c :: q).toArray⟩ : Str) = x
  have hxl : x.cps.toList = p ++ c :: q := by rw [← hx]
  have hlen : x.length = p.length + (q.length + 1) := by rw [← hx]; simp [Str.length]
  rw [StrLaws.occ_eq]
  have er : List.range' 0 (x.length + 1 - 0) = List.range' 0 p.length ++ (p.length :: List.range' (p.length + 1) (q.length + 1)) := by
    have : x.length + 1 - 0 = p.length + (q.length + 2) := by omega
    rw [this, ← List.range'_append_1, Nat.zero_add]
    rfl
  have key : x.cps.toList[p.length]? = some c := by rw [hxl]; simp
  have hk := (StrLaws.subAt_one x c p.length).mpr key
  rw [er, occ_skip x ⟨#[c]⟩ x.length (p.length :: List.range' (p.length + 1) (q.length + 1)) (List.range' 0 p.length) 0 fun i hi hc => by
    have := (StrLaws.subAt_one x c i).mp hc
    have hi' : i < p.length := by simpa using hi
    rw [hxl, List.getElem?_append_left hi'] at this
    exact hp (List.mem_of_getElem? this)]
  rw [List.forIn_cons]
  have eb : StrLaws.occBody x ⟨#[c]⟩ x.length 1 p.length ((#[] : Array Nat), 0) = pure (ForInStep.yield (#[p.length], p.length + (⟨#[c]⟩ : Str).length)) := by
    unfold StrLaws.occBody
    rw [if_pos ⟨⟨⟨by simp, Nat.zero_le _⟩, hk.1⟩, hk.2⟩]
    rfl
  rw [eb]
  have e2 := occ_keep x ⟨#[c]⟩ x.length (List.range' (p.length + 1) (q.length + 1)) (#[p.length], p.length + (⟨#[c]⟩ : Str).length) (by simp)
  show (forIn (List.range' (p.length + 1) (q.length + 1)) (#[p.length], p.length + (⟨#[c]⟩ : Str).length) (StrLaws.occBody x ⟨#[c]⟩ x.length 1)).run.fst.toList = _
  rw [e2]
def rIndex : V → List V → Hp → VK → Prop := fun x vs H Q => ∃ (p q : List Nat) (c : Nat), x = .str ⟨(p ++ c :: q).toArray⟩ ∧ vs = [.str ⟨#[c]⟩] ∧ c ∉ p ∧ Q (.int p.length) H
theorem mt_index : MtR X "str.index" rIndex := by
  intro pins s σ H x vs v us Q I rx rv h
  obtain ⟨p, q, c, rfl, rfl, hp, k⟩ := h
  obtain ⟨t, rfl⟩ := rx
  obtain ⟨u, rfl, t', rfl⟩ := vals1 rv
  exact call_gives F.slot_str_index (typeIs_str _ _ _) F.entry_str_index (F.args_str_index_2 _ _) (gives_str_index _ _ t t' p.length [] (occ_one hp)) ⟨.int p.length, H, I.tok _, ⟨_, rfl⟩, k⟩
end
end L2
namespace L2
open PySem PySem.Spec PyProof.Rows
/-! ### z[::-1] -/
theorem rev_text (l : List Nat) (u : Tok) : Txt.sliceBy (⟨l.toArray⟩ : Str) none none (-1, u) = ⟨l.reverse.toArray⟩ := by
  have h := step_rev_list (⟨l.toArray⟩ : Str) u
  generalize Txt.sliceBy (⟨l.toArray⟩ : Str) none none (-1, u) = y at h
  have hl : (⟨l.toArray⟩ : Str).length = l.length := by simp [Str.length]
  rw [hl] at h
  have e : y.cps.toList = l.reverse := by
    rw [h]
    refine List.ext_getElem? fun i => ?_
    by_cases hi : i < l.length
    · rw [List.getElem?_map, List.getElem?_range hi, List.getElem?_reverse hi]
      have : l.length - 1 - i < l.length := by omega
      simp [this]
    · rw [List.getElem?_eq_none (by simp; omega), List.getElem?_eq_none (by simp; omega)]
  cases y with
  | mk cps =>
    have e' : cps.toList = l.reverse := e
    rw [← e']
def tRev (te : TE) : TE := fun σ H Q => te σ H fun x H1 => ∃ l : List Nat, x = .str ⟨l.toArray⟩ ∧ l.length ≤ sizeLine ∧ Q (.str ⟨l.reverse.toArray⟩) H1
theorem pe_rev {X : Cx} {e : Expr} {te : TE} {step : Expr} {tk : TE} {p2 pos : Pos} (he : PE X e te) (hk : PE X step tk) (hk1 : ∀ σ H (Q : VK), Q (.int (-1)) H → tk σ H Q) :
    PE X (.Subscript e (.Slice none none (some step) p2) pos) (tRev te) := by
  intro pins s σ H Q I h
  refine Subscript_ (thn (he pins s σ H _ I h) fun v s1 ⟨x, H1, I1, r1, l, hx, hz, q1⟩ => ?_)
  subst hx
  obtain ⟨t, rfl⟩ := r1
  refine wpAny_Slice ?_
  rw [evalPart_none]
  refine wpAny_pure ?_
  refine wpAny_pure ?_
  rw [evalPart_some]
  refine thn (hk pins s1 σ H1 (fun v H' => v = .int (-1) ∧ H' = H1) I1 (hk1 _ _ _ ⟨rfl, rfl⟩)) fun vk s3 ⟨y, H3, I3, r3, ey, eH⟩ => ?_
  subst ey
  subst eH
  obtain ⟨tk', rfl⟩ := r3
  have I4 : Inv X pins σ H3 { s3 with heap := s3.heap.push { cls := .type "slice", data := .fields #[.none, .none, .int (-1) tk'] } } := I3.kept (t' := s3.toks) fun b ob q => Heap.get?_push_of_some _ q
  have hg : wpAny (model X.prog X.w) X.A (getItem (.str ⟨l.toArray⟩ t) (.ref s3.heap.objs.size)) (EP X pins σ Q) X.xe { s3 with heap := s3.heap.push { cls := .type "slice", data := .fields #[.none, .none, .int (-1) tk'] } } :=
    wpAny_with_toks (Nat.le_refl _) (wpAny_getItem_str_slice (l := none) (u := none) (st := some (-1, tk')) ⟨_, Heap.get?_push_size _ rfl, rfl, rfl⟩ rfl
      (post_val_or_str ⟨by
        have e : (Txt.sliceBy (⟨l.toArray⟩ : Str) none none (-1, tk')).length ≤ sizeLine := by
          rw [rev_text]
          show l.reverse.toArray.size ≤ sizeLine
          rw [List.size_toArray, List.length_reverse]
          exact hz
        exact e, fun t' c => by
        have e : Txt.sliceBy (⟨l.toArray⟩ : Str) none none (-1, tk') = ⟨l.reverse.toArray⟩ := rev_text l tk'
        intro htk
        show EP X pins σ Q (.str (Txt.sliceBy (⟨l.toArray⟩ : Str) none none (-1, tk')) t') _
        rw [e]
        exact ⟨.str ⟨l.reverse.toArray⟩, H3, I4.tok c htk, ⟨_, rfl⟩, q1⟩⟩))
  exact tail_any (ops := [.ref s3.heap.objs.size, .str ⟨l.toArray⟩ t]) (typeIs_str _ _ _) F.slot_str_getitem.lookup hg (by with_unfolding_all rfl)
theorem qe_rev {X : Cx} {e : Expr} {te : TE} {p1 p2 p3 pos : Pos} {j : _} (he : QE X e te) : QE X (.Subscript e (.Slice none none (some (.UnaryOp .USub (.Constant (.int 1) j p1) p3)) p2) pos) (tRev te) :=
  ⟨pe_rev he.h (pe_un un_neg pe_int) fun _ _ _ q => ⟨1, rfl, q⟩⟩
end L2
namespace L2
open PySem PySem.Spec PyProof.Rows
/-! ### a, b = a list of two -/
section
variable {prog : Program} {w : World} {A : Around} {E : Value → Shared → Prop} {s : Shared}
theorem draw_list {it t : Addr} {items : Array Value} (hne : t ≠ it) : ∀ (n i : Nat) (s : Shared) (Q : List Value → Shared → Prop), s.heap.IsListIter it t i → s.heap.IsList t items → i + n ≤ items.size →
    (∀ h', h'.IsListIter it t (i + n) → Heap.SameBut it s.heap h' → Q ((items.toList.drop i).take n) { s with heap := h' }) → wpAny (model prog w) A (draw (.ref it) n) Q E s
  | 0, i, s, Q, hit, _, _, hQ => by
    show wpAny _ _ (pure []) Q E s
    exact wpAny_pure (by simpa using hQ s.heap hit (Heap.SameBut.refl ..))
  | n + 1, i, s, Q, hit, ht, hle, hQ => by
    have hlt : i < items.size := by omega
    show wpAny _ _ (pyNext (.ref it) >>= _) Q E s
    refine wpAny_bind (wpAny_pyNext_list_item hit ht (x := items[i]) (by simp [hlt]) fun h₁ hit₁ hs₁ => ?_)
    refine wpAny_bind (wpAny_holding (draw_list hne n (i + 1) _ _ hit₁ (ht.extBut hs₁.extBut hne) (by omega) fun h₂ hit₂ hs₂ => wpAny_pure ?_))
    have hd : items.toList.drop i = items[i] :: items.toList.drop (i + 1) := by simp [List.drop_eq_getElem_cons, hlt]
    have := hQ h₂ (by rw [show i + (n + 1) = i + 1 + n by omega]; exact hit₂) (hs₁.trans hs₂)
    rw [hd, List.take_succ_cons] at this
    exact this
theorem unpack_list {t : Addr} {items : Array Value} {Q : List Value → Shared → Prop} (hh : A.handled = none) (ht : s.heap.IsList t items)
    (hQ : ∀ h', Heap.ExtBut s.heap.objs.size s.heap h' → Q items.toList { s with heap := h' }) : wpAny (model prog w) A (unpackItems (.ref t) items.size none) Q E s := by
  have hlt : t ≠ s.heap.objs.size := by obtain ⟨o, ho, _⟩ := ht; exact Nat.ne_of_lt (Heap.lt_size ho)
  unfold unpackItems
  refine wpAny_bind ?_
  · unfold notIterableAtAll
    refine wpAny_bind (wpAny_specialOf ht.typeIs F.slot_list_iter.lookup ?_)
    refine wpAny_pure ?_
    simp only [Bool.false_eq_true, if_false]
    refine wpAny_bind (wpAny_holding (wpAny_pyIter_list ht ?_))
    refine wpAny_bind (wpAny_holding (draw_list hlt items.size 0 _ _ ⟨_, Heap.get?_push_size _ rfl, rfl, rfl⟩ (ht.push _) (by omega) fun h₁ hit₁ hs₁ => ?_))
    have hall : List.take items.size (List.drop 0 items.toList) = items.toList := by
      rw [List.drop_zero]; exact List.take_of_length_le (by simp)
    rw [hall]
    rw [if_neg (by simp)]
    have ht₁ : h₁.IsList t items := (ht.push _).extBut hs₁.extBut hlt
    refine wpAny_bind (wpAny_holding (wpAny_pyNext_list_end hh hit₁ ht₁ (by simp) fun h₂ he₂ => ?_))
    simp only [Option.isSome_none, Bool.false_eq_true, if_false]
    refine wpAny_pure (hQ h₂ fun b o hb e => he₂ b o hb (hs₁.extBut b o hb (Heap.get?_push_of_some _ e)))
end
def gLst (K : PySem.W.Frag) (n : Nat) (t : TGs) : TG := fun v σ H Q => ∃ a xs, v = .ref a ∧ SqL K H a xs ∧ xs.length = n ∧ t xs σ H Q
theorem qg_lst {X : Cx} {pos : Pos} (K : PySem.W.Frag) {es : List Expr} {k : Nat} {t : TGs} {n : Nat} (hc : X.calm = true) (h : QGs X es t) (hK : X.K = K := by rfl)
    (hn : (assignEach es X.env).length = n := by rfl) (hst : (assignEach es X.env).findIdx? (·.1) = none := by rfl) : QG X (.Tuple es k pos) (gLst K n t) := by
  subst hK
  refine ⟨?_⟩
  intro pins s σ H v u Q I r hw
  obtain ⟨a, xs, e1, hq, hl, hw⟩ := hw
  subst e1
  cases r
  obtain ⟨its, rv, pl, hz⟩ := I.list hq
  rw [arm_assign_Tuple]
  refine wpAny_bind (wpAny_standAt ?_)
  unfold unpack
  have en : (assignEach es X.env).length = its.toArray.size := by rw [hn, ← hl, rv.length, List.size_toArray]
  rw [en, hst]
  refine wpAny_bind (wpAny_holding (unpack_list (I.ok.hd hc) pl.isList fun h' hx => ?_))
  have I1 : Inv X pins σ H { s with heap := h' } := I.kept (t' := s.toks) fun b o e => hx b o (Nat.ne_of_lt (Heap.lt_size e)) e
  exact h.h pins _ σ H xs _ Q I1 (by simpa using rv) hw
end L2
namespace L2
open PySem PySem.Spec PyProof.Rows
/-! ### any, min, max of a list -/
section
variable {X : Cx}
def rAnyB (K : PySem.W.Frag) : List V → Hp → VK → Prop := fun xs H Q => ∃ (p : Addr) (bs : List Bool), xs = [.ref p] ∧ SqL K H p (bs.map V.bl) ∧ Q (.bl (bs.any id)) H
theorem range_anyB : ∀ bs : List Bool, ((List.range bs.length).any fun i => (bs[i]?).getD true) = bs.any id := by
  intro bs
  rw [Bool.eq_iff_iff, List.any_eq_true, List.any_eq_true]
  constructor
  · rintro ⟨i, hi, h⟩
    have hi' := List.mem_range.mp hi
    rw [List.getElem?_eq_getElem hi'] at h
    exact ⟨_, List.getElem_mem hi', h⟩
  · rintro ⟨b, hb, h⟩
    obtain ⟨i, hi, e⟩ := List.getElem_of_mem hb
    refine ⟨i, List.mem_range.mpr hi, ?_⟩
    rw [List.getElem?_eq_getElem hi, e]
    exact h
theorem c_any (hc : X.calm = true) : CallR X (.builtin "any") (rAnyB X.K) := by
  intro pins s σ H xs us Q I r h
  obtain ⟨p, bs, rfl, hq, q⟩ := h
  obtain ⟨u, rfl, rx⟩ := vals1 r
  cases rx
  obtain ⟨its, rv, pl, hz⟩ := I.list hq
  have hlen := rv.length
  rw [List.length_map] at hlen
  have hl := pl.isList
  have hlt : p < s.heap.objs.size := by obtain ⟨_, e, _⟩ := hl; exact Heap.lt_size e
  refine wpAny_with_toks (Nat.le_refl _) (call_any_walk (wpAny_pyIter_list hl ?_))
  refine ⟨s.heap.objs.size, [s.heap.objs.size, p], [s.heap.objs.size], its.toArray.size, _, _, fun i => (bs[i]?).getD true, rfl, Walks.list (A := X.A.in1) (I.ok.hd hc) _ p (Nat.ne_of_lt hlt) its.toArray,
    ⟨⟨_, Heap.get?_push_size _ rfl, rfl, rfl⟩, hl.push _⟩, fun i v s' Q' E' hP hQ => ?_, fun h' tk hk htk => ?_⟩
  · obtain ⟨b, e, rfl⟩ := boolsAre_get rv i v (by simpa using hP)
    have hQ' : Q' ((bs[i]?).getD true) s' := hQ
    rw [e] at hQ'
    exact wpAny_truthy_bool hQ'
  · have e : ((List.range its.toArray.size).any fun i => (bs[i]?).getD true) = bs.any id := by
      rw [List.size_toArray, ← hlen]; exact range_anyB bs
    rw [e]
    have kp : ∀ b o, s.heap.get? b = some o → h'.get? b = some o := fun b o z =>
      hk b o (fun hm => absurd (Heap.lt_size z) (by
        have e1 : b = s.heap.objs.size := by simpa using hm
        rw [e1]
        exact Nat.lt_irrefl _)) (Heap.get?_push_of_some _ z)
    exact ⟨.bl (bs.any id), H, I.kept (t' := tk) kp htk, rfl, q⟩
/-- the place of the best: no other is better -/
theorem argBest_ok (bt : Nat → Nat → Bool) (irr : ∀ i, bt i i = false) (neg : ∀ i j k, bt j i = false → bt k j = false → bt k i = false) (asy : ∀ i j, bt i j = true → bt j i = false) : ∀ n, argBest bt n ≤ n ∧ ∀ j, j ≤ n → bt j (argBest bt n) = false
  | 0 => ⟨Nat.le_refl _, fun j hj => by
    have : j = 0 := by omega
    subst this
    exact irr 0⟩
  | n + 1 => by
    obtain ⟨h1, h2⟩ := argBest_ok bt irr neg asy n
    simp only [argBest]
    cases hb : bt (n + 1) (argBest bt n) with
    | true =>
      rw [if_pos rfl]
      refine ⟨Nat.le_refl _, fun j hj => ?_⟩
      by_cases e : j = n + 1
      · rw [e]; exact irr _
      · exact neg _ _ _ (asy _ _ hb) (h2 j (by omega))
    | false =>
      rw [if_neg Bool.false_ne_true]
      refine ⟨by omega, fun j hj => ?_⟩
      by_cases e : j = n + 1
      · rw [e]; exact hb
      · exact h2 j (by omega)
theorem strs_get : ∀ {ss : List Str} {us : List Value}, Vals (ss.map V.str) us → ∀ (i : Nat) v, us[i]? = some v → ∃ x t, ss[i]? = some x ∧ v = .str x t
  | [], us, r, i, v, e => by rw [List.map_nil] at r; cases r; cases e
  | x :: ss, us, r, i, v, e => by
    rw [List.map_cons] at r
    cases r with
    | cons r1 r2 =>
      obtain ⟨t, ht⟩ := r1
      cases i with
      | zero => exact ⟨x, t, rfl, by have := Option.some.inj (by simpa using e : some _ = some v); rw [← this, ht]⟩
      | succ i => exact strs_get r2 i v (by simpa using e)
def rMinS (K : PySem.W.Frag) : List V → Hp → VK → Prop := fun xs H Q => ∃ (p : Addr) (ss : List Str), xs = [.ref p] ∧ SqL K H p (ss.map V.str) ∧ ss ≠ [] ∧ ∀ x ∈ ss, (∀ y ∈ ss, ¬ y.cps.toList < x.cps.toList) → Q (.str x) H
theorem c_minL (hc : X.calm = true) : CallR X (.builtin "min") (rMinS X.K) := by
  intro pins s σ H xs us Q I r h
  obtain ⟨p, ss, rfl, hq, hne, q⟩ := h
  obtain ⟨u, rfl, rx⟩ := vals1 r
  cases rx
  obtain ⟨its, rv, pl, hz⟩ := I.list hq
  have hlen := rv.length
  rw [List.length_map] at hlen
  have hl := pl.isList
  have hlt : p < s.heap.objs.size := by obtain ⟨_, e, _⟩ := hl; exact Heap.lt_size e
  have hpos : 0 < its.toArray.size := by
    rw [List.size_toArray, ← hlen]
    exact List.length_pos_iff.mpr hne
  refine wpAny_with_toks (Nat.le_refl _) (call_min_walk (wpAny_pyIter_list hl ?_))
  refine ⟨s.heap.objs.size, [s.heap.objs.size, p], [s.heap.objs.size], its.toArray.size, _, _, fun i j => decide ((ss.getD i ⟨#[]⟩).cps.toList < (ss.getD j ⟨#[]⟩).cps.toList), rfl, Walks.list (A := X.A.in1) (I.ok.hd hc) _ p (Nat.ne_of_lt hlt) its.toArray,
    ⟨⟨_, Heap.get?_push_size _ rfl, rfl, rfl⟩, hl.push _⟩, fun c hcm => ?_, hpos, cmpS_lt (fun i => ss.getD i ⟨#[]⟩) fun i v hP => ?_, fun v h' tk hP hk htk => ?_⟩
  · show c < (s.heap.push _).objs.size
    rw [Heap.size_push]
    rcases List.mem_cons.mp hcm with z | z
    · rw [z]; exact Nat.lt_succ_self _
    · rw [List.mem_singleton.mp z]; exact Nat.lt_succ_of_lt hlt
  · obtain ⟨x, t, e, rfl⟩ := strs_get rv i v (by simpa using hP)
    exact ⟨t, by rw [List.getD_eq_getElem?_getD, e]; rfl⟩
  · obtain ⟨b1, b2⟩ := argBest_ok (fun i j => decide ((ss.getD i ⟨#[]⟩).cps.toList < (ss.getD j ⟨#[]⟩).cps.toList)) (fun i => decide_eq_false (List.lt_irrefl _))
      (fun i j k h1 h2 => decide_eq_false fun h3 => by
        have h1' := of_decide_eq_false h1
        have h2' := of_decide_eq_false h2
        rw [List.not_lt] at h1' h2'
        exact absurd h3 (List.not_lt.mpr (List.le_trans h1' h2'))) (fun i j h1 => decide_eq_false (List.lt_asymm (of_decide_eq_true h1))) (its.toArray.size - 1)
    have hP1 : its.toArray[argBest (fun i j => decide ((ss.getD i ⟨#[]⟩).cps.toList < (ss.getD j ⟨#[]⟩).cps.toList)) (its.toArray.size - 1)]? = some v := hP
    generalize argBest (fun i j => decide ((ss.getD i ⟨#[]⟩).cps.toList < (ss.getD j ⟨#[]⟩).cps.toList)) (its.toArray.size - 1) = m at hP1 b1 b2
    obtain ⟨x, t, e, rfl⟩ := strs_get rv m v (by simpa using hP1)
    have hx : x ∈ ss := List.mem_of_getElem? e
    have ex : ss.getD m ⟨#[]⟩ = x := by rw [List.getD_eq_getElem?_getD, e]; rfl
    have kp : ∀ b o, s.heap.get? b = some o → h'.get? b = some o := fun b o z =>
      hk b o (fun hm => absurd (Heap.lt_size z) (by
        have e1 : b = s.heap.objs.size := by simpa using hm
        rw [e1]
        exact Nat.lt_irrefl _)) (Heap.get?_push_of_some _ z)
    refine ⟨.str x, H, I.kept (t' := tk) kp htk, ⟨t, rfl⟩, q x hx fun y hy => ?_⟩
    obtain ⟨j, hj, ej⟩ := List.getElem_of_mem hy
    have := b2 j (by rw [List.size_toArray, ← hlen]; omega)
    rw [ex, List.getD_eq_getElem?_getD, List.getElem?_eq_getElem hj] at this
    rw [← ej]
    exact of_decide_eq_false this
end
end L2

namespace L2
open PySem PySem.Spec PyProof.Rows
/-! ## ExtS: sets of texts -/
theorem strsAre_len : ∀ {us : List Value} {ss : List Str}, StrsAre us ss → us.length = ss.length
  | _, _, .nil => rfl
  | _, _, .cons _ _ r => by rw [List.length_cons, List.length_cons, strsAre_len r]
theorem strsAre_perm {us vs : List Value} (p : us.Perm vs) : ∀ {ss : List Str}, StrsAre us ss → ∃ ss', StrsAre vs ss' ∧ ss'.Perm ss := by
  induction p with
  | nil => intro ss h; exact ⟨ss, h, .refl _⟩
  | cons v _ ih =>
    intro ss h
    cases h with
    | cons y t r =>
      obtain ⟨ss', a, b⟩ := ih r
      exact ⟨y :: ss', .cons y t a, b.cons y⟩
  | swap v u l =>
    intro ss h
    cases h with
    | cons y t r =>
      cases r with
      | cons z t' r' => exact ⟨z :: y :: _, .cons z t' (.cons y t r'), .swap ..⟩
  | trans _ _ i1 i2 =>
    intro ss h
    obtain ⟨s1, a, b⟩ := i1 h
    obtain ⟨s2, c, d⟩ := i2 a
    exact ⟨s2, c, d.trans b⟩
theorem strsAre_app : ∀ {us vs : List Value} {ss rs : List Str}, StrsAre us ss → StrsAre vs rs → StrsAre (us ++ vs) (ss ++ rs)
  | _, _, _, _, .nil, k => k
  | _, _, _, _, .cons y t r, k => .cons y t (strsAre_app r k)
theorem strsAre_mem : ∀ {us : List Value} {ss : List Str}, StrsAre us ss → ∀ x, x ∈ ss ↔ ∃ v ∈ us, Value.isStrOf x v = true
  | _, _, .nil, x => by simp
  | _, _, .cons y t r, x => by
    rw [List.mem_cons, strsAre_mem r x]
    constructor
    · rintro (rfl | ⟨v, hv, e⟩)
      · exact ⟨_, List.mem_cons_self, by simp [Value.isStrOf]⟩
      · exact ⟨v, List.mem_cons_of_mem _ hv, e⟩
    · rintro ⟨v, hv, e⟩
      rcases List.mem_cons.mp hv with z | z
      · subst z
        obtain ⟨t', e'⟩ := Value.isStrOf_shape e
        cases e'
        exact .inl rfl
      · exact .inr ⟨v, z, e⟩
/-- whether the world's own text orders sets -/
abbrev byTx (w : World) : Bool := w.params.followText "set-order"
/-- where f holds: the token of a text lies between 0 and n -/
def TokB (f : Bool) (n : Nat) (v : Value) : Prop := f = true → ∀ y t, v = .str y t → 0 < t ∧ t < n
theorem TokB.mono {f : Bool} {n m : Nat} {v : Value} (h : TokB f n v) (l : n ≤ m) : TokB f m v := fun e y t q => ⟨(h e y t q).1, Nat.lt_of_lt_of_le (h e y t q).2 l⟩
/-- a set of the texts ss, in its inner order -/
structure SetS (prog : Program) (w : World) (fb : Bool) (fn : Nat) (h : Heap) (a : Addr) (es : Array (Int × Value)) (ep : Nat) (t : SetTable) (ss : List Str) : Prop where
  at_ : h.get? a = some { cls := .type "set", dict := none, data := .set es ep t }
  txs : StrsAre (es.toList.map (·.2)) ss
  nd : ss.Nodup
  el : ElemsOf (PySem.strKind prog w) es.toList
  few : es.size < scanBound
  fits : t.fits es.size = true
  pl : t.plain = false ∨ es.size = 0
  led : t.led = true ∨ byTx w = true
  tb : ∀ e ∈ es.toList, TokB fb fn e.2
def SetAt (prog : Program) (w : World) (fb : Bool) (fn : Nat) (h : Heap) (a : Addr) (ss : List Str) : Prop := ∃ es ep t, SetS prog w fb fn h a es ep t ss
section
variable {prog : Program} {w : World} {A : Around} {E : Value → Shared → Prop} {s : Shared} {fb : Bool} {fn : Nat}
theorem SetS.size {h : Heap} {a : Addr} {es : Array (Int × Value)} {ep : Nat} {t : SetTable} {ss : List Str} (S : SetS prog w fb fn h a es ep t ss) : es.size = ss.length := by
  have := strsAre_len S.txs
  rw [List.length_map, Array.length_toList] at this
  exact this
theorem relay_flags (t : SetTable) (es : Array (Int × Value)) (n : Nat) : (relayAll t es n).2.1.led = t.led ∧ ((relayAll t es n).2.1.plain = t.plain ∨ (relayAll t es n).2.1.plain = false) := by
  unfold relayAll
  split
  · rename_i t' order e
    have ht : t'.led = t.led ∧ t'.plain = t.plain := by
      unfold SetTable.relaid SetTable.laid at e
      simp only [Option.bind_eq_bind, Option.bind_eq_some_iff, Option.pure_def, Option.some.injEq, Prod.mk.injEq] at e
      obtain ⟨_, _, e1, _⟩ := e
      rw [← e1]
      exact ⟨rfl, rfl⟩
    dsimp only
    split
    · exact ⟨ht.1, .inl ht.2⟩
    · exact ⟨rfl, .inr rfl⟩
  · exact ⟨rfl, .inr rfl⟩
theorem lay_flags (t : SetTable) (es : Array (Int × Value)) (k : Int) (x : Value) : (layNew t es k x).2.1.led = t.led ∧ ((layNew t es k x).2.1.plain = t.plain ∨ (layNew t es k x).2.1.plain = false) := by
  unfold layNew
  split
  · dsimp only
    unfold SetTable.orStandIn
    split
    · exact ⟨rfl, .inl rfl⟩
    · exact ⟨rfl, .inr rfl⟩
  · exact ⟨rfl, .inr rfl⟩
/-- the set is laid anew -/
theorem SetS.put {h : Heap} {a : Addr} {es es' : Array (Int × Value)} {ep : Nat} {t t' : SetTable} {ss ss' : List Str} (S : SetS prog w fb fn h a es ep t ss)
    (hs : StrsAre (es'.toList.map (·.2)) ss') (nd : ss'.Nodup) (el : ElemsOf (PySem.strKind prog w) es'.toList) (few : es'.size < scanBound) (fits : t'.fits es'.size = true) (pl : t'.plain = false) (led : t'.led = t.led) (tb : ∀ e ∈ es'.toList, TokB fb fn e.2) :
    SetS prog w fb fn (h.update a (Obj.putSet es' t')) a es' (ep + 1) t' ss' := by
  refine ⟨?_, hs, nd, el, few, fits, .inl pl, by rw [led]; exact S.led, tb⟩
  have e := Heap.get?_update_self (Obj.putSet es' t') S.at_ (by rw [putSet_of es' t' rfl]; rfl)
  rw [putSet_of es' t' (o := { cls := .type "set", dict := none, data := .set es ep t }) rfl] at e
  exact e
theorem put_tail {g : Bool → Sem Unit} (hg : ∀ (b : Bool) (s₁ : Shared) (K : Unit → Shared → Prop), K () s₁ → wpAny (model prog w) A (g b) K E s₁)
    {a : Addr} {es es1 : Array (Int × Value)} {ep : Nat} {t t2 : SetTable} {ss s1 : List Str} {wd : Bool} {R : Option Bool → Shared → Prop} (S : SetS prog w fb fn s.heap a es ep t ss)
    (hs : StrsAre (es1.toList.map (·.2)) s1) (nd : s1.Nodup) (el : ElemsOf (PySem.strKind prog w) es1.toList) (few : es1.size < scanBound) (fits : t2.fits es1.size = true) (pl : t2.plain = false) (led : t2.led = t.led) (tb : ∀ e ∈ es1.toList, TokB fb fn e.2)
    (h : ∀ (h' : Heap) (s2 : List Str), Heap.SameBut a s.heap h' → SetAt prog w fb fn h' a s2 → s2.Perm s1 → R (some true) { s with heap := h' }) :
    wpAny (model prog w) A (storeSet a es1 t2 >>= fun _ => if (!wd && t2.tooFull) = true then (g (relayAll t2 es1 (SetTable.grown es1.size)).2.2 >>= fun _ => storeSet a (relayAll t2 es1 (SetTable.grown es1.size)).1 (relayAll t2 es1 (SetTable.grown es1.size)).2.1 >>= fun _ => pure (some true)) else pure (some true)) R E s := by
  refine wpAny_bind (wpAny_storeSet_of S.at_ rfl ?_ (fits_of_scanBound few))
  have S1 := S.put hs nd el few fits pl led tb
  have b1 := Heap.SameBut.update s.heap a (Obj.putSet es1 t2)
  by_cases hc : (!wd && t2.tooFull) = true
  · rw [if_pos hc]
    have hp := relayAll_perm t2 es1 (SetTable.grown es1.size)
    have hf := relayAll_fits t2 es1 (SetTable.grown es1.size)
    have hl := relay_flags t2 es1 (SetTable.grown es1.size)
    generalize relayAll t2 es1 (SetTable.grown es1.size) = Z at hp hf hl
    obtain ⟨es2, t3, gv⟩ := Z
    dsimp only at hp hf hl ⊢
    have hz : es2.size = es1.size := by
      have := hp.length_eq
      rw [Array.length_toList, Array.length_toList] at this
      exact this
    obtain ⟨s2, hs2, p2⟩ := strsAre_perm (hp.symm.map (·.2)) hs
    refine wpAny_bind (hg _ _ _ (wpAny_bind (wpAny_storeSet_of S1.at_ rfl (wpAny_pure ?_) (by rw [hz]; exact fits_of_scanBound few))))
    refine h _ s2 (b1.trans (Heap.SameBut.update _ a _)) ⟨_, _, _, S1.put hs2 (p2.nodup_iff.mpr nd) (el.perm hp) (by rw [hz]; exact few) hf ?_ hl.1 (fun e he => tb e (hp.mem_iff.mp he))⟩ p2
    rcases hl.2 with z | z
    · rw [z]; exact pl
    · exact z
  · rw [if_neg hc]
    exact wpAny_pure (h _ s1 b1 ⟨_, _, _, S1⟩ (.refl _))
theorem set_add {a : Addr} {ss : List Str} {x : Str} {u : Tok} {Q : Bool → Shared → Prop} (hS : SetAt prog w fb fn s.heap a ss) (hx0 : TokB fb fn (.str x u)) (room : ss.length + 1 < scanBound)
    (h : ∀ (h' : Heap) (b : Bool) (ss' : List Str), Heap.SameBut a s.heap h' → SetAt prog w fb fn h' a ss' → (∀ k, k ∈ ss' ↔ k ∈ ss ∨ k = x) → ss'.length ≤ ss.length + 1 → Q b { s with heap := h' }) :
    wpAny (model prog w) A (setAddHashed a (.str x u) (hashStr w x)) Q E s := by
  obtain ⟨es, ep, t, S⟩ := hS
  have hk : (PySem.strKind prog w).is x (.str x u) = true := by simp [PySem.strKind, Value.isStrOf]
  have hz := S.size
  unfold setAddHashed
  unfold setAddHashedIn
  refine wpAny_holding (wpAny_bind (wpAny_setState_of S.at_ rfl S.fits ?_))
  dsimp only
  rw [byScan_of (x := .str x u) rfl S.few S.el, if_pos rfl]
  unfold setAddByScan
  refine wpAny_bind (wpAny_bind (wpAny_rule (wpAny_bind (wpAny_setScan_of (knd := PySem.strKind prog w) hk S.at_ rfl S.fits S.el ?_))))
  cases hr : List.findIdx? (fun e => (PySem.strKind prog w).is x e.2) es.toList with
  | some j =>
    dsimp only
    obtain ⟨hj, hpj, _⟩ := List.findIdx?_eq_some_iff_getElem.mp hr
    have hx : x ∈ ss := (strsAre_mem S.txs x).mpr ⟨_, List.mem_map.mpr ⟨_, List.getElem_mem hj, rfl⟩, hpj⟩
    exact wpAny_pure (wpAny_pure (h s.heap false ss (Heap.SameBut.refl a s.heap) ⟨_, _, _, S⟩ (fun k => ⟨.inl, fun z => z.elim id fun e => e ▸ hx⟩) (Nat.le_succ _)))
  | none =>
    dsimp only
    have hx : x ∉ ss := fun z => by
      obtain ⟨v, hv, e⟩ := (strsAre_mem S.txs x).mp z
      obtain ⟨e1, he1, rfl⟩ := List.mem_map.mp hv
      have := List.findIdx?_eq_none_iff.mp hr e1 he1
      have e' : (PySem.strKind prog w).is x e1.2 = true := e
      rw [e'] at this
      cases this
    have hp := layNew_perm t es (hashStr w x) (.str x u)
    have hf := layNew_fits t es (hashStr w x) (.str x u)
    have hl := lay_flags t es (hashStr w x) (.str x u)
    have eh : (PySem.strKind prog w).hash x = hashStr w x := rfl
    generalize layNew t es (hashStr w x) (.str x u) = Z at hp hf hl ⊢
    obtain ⟨es1, t1, wd, gv⟩ := Z
    dsimp only at hp hf hl ⊢
    rw [Array.toList_push] at hp
    obtain ⟨s1, hs1, p1⟩ := strsAre_perm ((hp.symm).map (·.2)) (ss := ss ++ [x]) (by rw [List.map_append]; exact strsAre_app S.txs (.cons x u .nil))
    have nd1 : s1.Nodup := p1.nodup_iff.mpr (by rw [List.nodup_append]; exact ⟨S.nd, by simp, fun a ha b hb => by rw [List.mem_singleton.mp hb]; exact fun e => hx (e ▸ ha)⟩)
    have el1 : ElemsOf (PySem.strKind prog w) es1.toList := (S.el.push hk rfl).perm hp
    have tb1 : ∀ e ∈ es1.toList, TokB fb fn e.2 := fun e he => by
      rcases List.mem_append.mp (hp.mem_iff.mp he) with z | z
      · exact S.tb e z
      · rw [List.mem_singleton.mp z]; exact hx0
    have z1 : es1.size = ss.length + 1 := by
      have := strsAre_len hs1
      rw [List.length_map, Array.length_toList, p1.length_eq, List.length_append] at this
      exact this
    have fin : ∀ (h' : Heap) (s2 : List Str), Heap.SameBut a s.heap h' → SetAt prog w fb fn h' a s2 → s2.Perm s1 → Q true { s with heap := h' } := fun h' s2 sb S2 p2 =>
      h h' true s2 sb S2 (fun k => by rw [(p2.trans p1).mem_iff]; simp) (by rw [(p2.trans p1).length_eq]; simp)
    have hgv : ∀ (b : Bool) (s₁ : Shared) (K : Unit → Shared → Prop), K () s₁ → wpAny (model prog w) A (match b with | true => rule "set.scan.the-table-gave-way" | false => pure ()) K E s₁ := fun b s₁ K hK => by
      cases b
      · exact wpAny_pure hK
      · exact wpAny_rule hK
    refine wpAny_bind (hgv _ _ _ ?_)
    cases hpl : t1.plain with
    | true =>
      rw [if_pos rfl]
      refine wpAny_bind (wpAny_pure (a := false) ?_)
      exact put_tail hgv S hs1 nd1 el1 (by rw [z1]; exact room) (t2 := { t1 with plain := false }) (SetTable.fits_plain_off hf) rfl hl.1 tb1 fun h' s2 sb S2 p2 => wpAny_pure (fin h' s2 sb S2 p2)
    | false =>
      rw [if_neg (by simp)]
      refine wpAny_bind (wpAny_pure (a := true) ?_)
      exact put_tail hgv S hs1 nd1 el1 (by rw [z1]; exact room) (t2 := t1) hf hpl hl.1 tb1 fun h' s2 sb S2 p2 => wpAny_pure (fin h' s2 sb S2 p2)
theorem SetAt.keep {h h' : Heap} {a : Addr} {ss : List Str} (S : SetAt prog w fb fn h a ss) (k : ∀ o, h.get? a = some o → h'.get? a = some o) : SetAt prog w fb fn h' a ss := by
  obtain ⟨es, ep, t, S⟩ := S
  exact ⟨es, ep, t, k _ S.at_, S.txs, S.nd, S.el, S.few, S.fits, S.pl, S.led, S.tb⟩
theorem SetAt.bound {h : Heap} {a : Addr} {ss : List Str} {m : Nat} (S : SetAt prog w fb fn h a ss) (l : fn ≤ m) : SetAt prog w fb m h a ss := by
  obtain ⟨es, ep, t, S⟩ := S
  exact ⟨es, ep, t, S.at_, S.txs, S.nd, S.el, S.few, S.fits, S.pl, S.led, fun e he => (S.tb e he).mono l⟩
/-- a walk of texts that are put into a set; where f holds each has a new token -/
structure SW (prog : Program) (w : World) (A : Around) (I : Addr) (fp wr : List Addr) (n : Nat) (val : Nat → Str) (f : Bool) (St : Nat → Shared → Prop) : Prop where
  sub : ∀ b ∈ wr, b ∈ fp
  frame : ∀ i (s : Shared) h' tk, St i s → s.toks ≤ tk → (∀ b ∈ fp, ∀ o, s.heap.get? b = some o → h'.get? b = some o) → St i { s with heap := h', toks := tk }
  item : ∀ i (s : Shared) (Q : Option Value → Shared → Prop) (E : Value → Shared → Prop), i < n → St i s →
    (∀ t s', (f = true → s.toks ≤ t ∧ t < s'.toks) → St (i + 1) s' → Moved wr (fun a b => b = a) s s' → Q (some (.str (val i) t)) s') → wpAny (model prog w) A (pyNext (.ref I)) Q E s
  done : ∀ (s : Shared) (Q : Option Value → Shared → Prop) (E : Value → Shared → Prop), St n s → (∀ s', Moved wr (fun a b => b = a) s s' → Q none s') → wpAny (model prog w) A (pyNext (.ref I)) Q E s
theorem set_loop {R : Result → Shared → Prop} {I : Addr} {fp wr : List Addr} {n : Nat} {val : Nat → Str} {St : Nat → Shared → Prop} (W : SW prog w A.in1 I fp wr n val fb St) (S : Addr) (hS : S ∉ fp) (hb : n + 1 < scanBound) :
    ∀ (k i : Nat) (s : Shared) (ss : List Str), n - i = k → i ≤ n → St i s → (fb = true → 1 ≤ s.toks) → SetAt prog w fb s.toks s.heap S ss → ss.length ≤ i → (∀ x, x ∈ ss ↔ ∃ j, j < i ∧ val j = x) →
      (∀ s' ss', Moved (S :: wr) (fun a b => b = a) s s' → SetAt prog w fb s'.toks s'.heap S ss' → ss'.length ≤ n → (∀ x, x ∈ ss' ↔ ∃ j, j < n ∧ val j = x) → R (.ok (.ret .none)) s') →
      codeAny (model prog w) A (.builtin "set.update.loop" ⟨[.ref S, .ref I], []⟩) R s := by
  have nw : S ∉ wr := fun z => hS (W.sub _ z)
  have sub : ∀ b ∈ wr, b ∈ S :: wr := fun b z => .tail _ z
  intro k
  induction k with
  | zero =>
    intro i s ss hk hi st h1 hs hl hm hR
    obtain rfl : i = n := by omega
    refine codeAny_builtin PyProof.Rows.F.entry_set_update_loop ?_; rw [Around.under_plainId PyProof.Rows.F.plain_set_update_loop _]
    change wpAny _ A.in1 (pyNext (.ref I) >>= _) _ _ s
    refine wpAny_bind (W.done s _ _ st fun s' mv => ?_)
    exact wpAny_pure (hR s' ss (mv.mono sub) ((hs.keep fun o e => mv.heap S o nw e).bound mv.toks) hl hm)
  | succ k ih =>
    intro i s ss hk hi st h1 hs hl hm hR
    have lt : i < n := by omega
    refine codeAny_builtin PyProof.Rows.F.entry_set_update_loop ?_; rw [Around.under_plainId PyProof.Rows.F.plain_set_update_loop _]
    change wpAny _ A.in1 (pyNext (.ref I) >>= _) _ _ s
    refine wpAny_bind (W.item i s _ _ lt st fun t s' ht st' mv => ?_)
    have hs' : SetAt prog w fb (s'.toks + 1) s'.heap S ss := (hs.keep fun o e => mv.heap S o nw e).bound (Nat.le_succ_of_le mv.toks)
    have hx0 : TokB fb (s'.toks + 1) (.str (val i) t) := fun e y t' q => by
      cases q
      exact ⟨Nat.lt_of_lt_of_le (h1 e) (ht e).1, Nat.lt_succ_of_lt (ht e).2⟩
    change wpAny _ A.in1 (holding [Value.str (val i) t] (setAdd S (.str (val i) t)) >>= _) _ _ s'
    refine wpAny_bind (wpAny_holding ?_); unfold setAdd
    refine wpAny_holding (wpAny_bind ((PySem.strKind prog w).pyHash (k := val i) (by simp [PySem.strKind, Value.isStrOf]) ?_))
    refine set_add (s := { s' with toks := s'.toks + 1 }) hs' hx0 (by omega) fun h' b ss' sb S2 m2 l2 => ?_
    refine wpAny_pure ⟨plainId_quiet PyProof.Rows.F.plain_set_update_loop _, ih (i + 1) _ ss' (by omega) lt (W.frame _ s' _ _ st' (Nat.le_succ _) fun b hb o e => ?_) (fun _ => Nat.le_add_left _ _) S2 (by omega) (fun x => ?_) fun s'' s3 mv2 S3 l3 m3 => ?_⟩
    · rw [sb.2 b (fun z : b = S => hS (z ▸ hb))]; exact e
    · rw [m2, hm]
      constructor
      · rintro (⟨j, hj, e⟩ | e)
        · exact ⟨j, by omega, e⟩
        · exact ⟨i, by omega, e.symm⟩
      · rintro ⟨j, hj, e⟩
        by_cases z : j = i
        · exact .inr (by rw [← e, z])
        · exact .inl ⟨j, by omega, e⟩
    · refine hR s'' s3 (Moved.trans (fun _ _ _ h1 h2 => h2.trans h1) ((mv.mono sub).then_heap (Nat.le_succ _) fun b o hb e => ?_) mv2) S3 l3 m3
      rw [sb.2 b (fun z : b = S => hb (z ▸ .head _))]; exact e
theorem set_new1 (a : Value) {K : Value → Shared → Prop}
    (h : K (.ref s.heap.objs.size) { s with heap := s.heap.push { cls := .type "set", dict := none, data := .set #[] 0 (.fresh 0 0 (!byTx w)) } }) :
    codeAny (model prog w) A (.call (.builtin "set.__new__") ⟨[.type "set", a], []⟩) (wants K E) s := by
  refine codeAny_of_tree ?_
  change wpAny _ A.in1 (checkBuiltinCall "set.__new__" ⟨[.type "set", a], []⟩ >>= fun _ => again (.builtin "set.__new__" ⟨[.type "set", a], []⟩)) _ _ s
  refine wpAny_bind (wpAny_of_eq (PySem.F.newCall_set_1 a) (wpAny_pure ⟨plainId_quiet PySem.F.plain_set_new _, codeAny_builtin PySem.F.entry_set_new ?_⟩)); rw [Around.under_plainId PySem.F.plain_set_new _]
  unfold Builtin.«set.__new__»; unfold Builtin.Frozenset.newClass
  have hsub := PySem.sub_set_self
  obtain ⟨hp, g, d, tk, os⟩ := s
  dsimp only
  wp_walk
  refine wpAny_askSetting (wpAny_pure ?_); dsimp only; simp only [newObj]
  exact wpAny_bind (wpAny_alloc (wpAny_pure (wpAny_pure h)))
/-- set(v), v a text or a tuple of texts -/
theorem set_of {v : Value} {T : String} {n : Nat} {Q : Value → Shared → Prop} (fb : Bool) (hh : A.handled = none) (hn : n + 1 < scanBound) (val : Nat → Str) (h1t : fb = true → 1 ≤ s.toks)
    (hT : ∀ h' : Heap, (∀ b o, s.heap.get? b = some o → h'.get? b = some o) → Shared.TypeIs { s with heap := h' } v T)
    (h1 : isSubtype (.type T) (.type "set") = pure false) (h2 : isSubtype (.type T) (.type "frozenset") = pure false) (h3 : (Value.type T == Value.type "dict") = false)
    (hit : ∀ (A' : Around) (h' : Heap) (K : Value → Shared → Prop) (E' : Value → Shared → Prop), (∀ b o, s.heap.get? b = some o → h'.get? b = some o) →
      (∀ (o : Obj) (fp wr : List Addr) (St : Nat → Shared → Prop), (∀ b ∈ fp, b = h'.objs.size ∨ b < s.heap.objs.size) → (∀ b ∈ wr, b = h'.objs.size) → (∀ A' : Around, A'.handled = none → SW prog w A' h'.objs.size fp wr n val fb St) → St 0 { s with heap := h'.push o } → K (.ref h'.objs.size) { s with heap := h'.push o }) →
      wpAny (model prog w) A' (pyIter v) K E' { s with heap := h' })
    (h : ∀ (h' : Heap) (tk : Nat) ss, (∀ b o, s.heap.get? b = some o → h'.get? b = some o) → SetAt prog w fb tk h' s.heap.objs.size ss → ss.length ≤ n → (∀ x, x ∈ ss ↔ ∃ j, j < n ∧ val j = x) → Q (.ref s.heap.objs.size) { s with heap := h', toks := tk }) :
    wpAny (model prog w) A (call (.type "set") [v]) Q E s := by
  obtain ⟨c, tl, hmro⟩ := PySem.F.called_set.mro
  have hmade := PySem.F.called_set.made
  have hsub := PySem.F.called_set.sub
  refine wpAny_call (codeAny_of_tree ?_); change wpAny _ _ (callAny (.type "set") _) _ _ _
  refine wpAny_pure ⟨Code.quiet_builtin _ (by decide +kernel), codeAny_builtin PySem.F.entry_type_call ?_⟩
  rw [Around.under_plain (weight_type_call_type "set" [v] []) rfl]
  have hn1 := PySem.F.called_set.notType
  have hn2 := PySem.F.called_set.canCreate
  have hct := PySem.F.typeCall_set_1 v
  repeat (any_goals (first | assumption | wp_step))
  refine codeAny_mono (set_new1 v (E := E) (K := fun obj s₁ => obj = .ref s.heap.objs.size ∧ s₁ = { s with heap := s.heap.push { cls := .type "set", dict := none, data := .set #[] 0 (.fresh 0 0 (!byTx w)) } }) ⟨rfl, rfl⟩) fun r s₁ hr => ?_
  cases r with
  | error e => exact hr
  | ok fl =>
    cases fl with
    | ret obj =>
      obtain ⟨rfl, rfl⟩ := hr
      have hO : (s.heap.push { cls := .type "set", dict := none, data := .set #[] 0 (.fresh 0 0 (!byTx w)) }).get? s.heap.objs.size = some { cls := .type "set", dict := none, data := .set #[] 0 (.fresh 0 0 (!byTx w)) } := Heap.get?_push_size _ rfl
      have hOT : Shared.TypeIs { s with heap := s.heap.push { cls := .type "set", dict := none, data := .set #[] 0 (.fresh 0 0 (!byTx w)) } } (.ref s.heap.objs.size) "set" := ⟨_, hO, rfl⟩
      have kp : ∀ b o, s.heap.get? b = some o → (s.heap.push { cls := .type "set", dict := none, data := .set #[] 0 (.fresh 0 0 (!byTx w)) }).get? b = some o := fun b o e => Heap.get?_push_of_some _ e
      have hS0 : SetAt prog w fb s.toks (s.heap.push { cls := .type "set", dict := none, data := .set #[] 0 (.fresh 0 0 (!byTx w)) }) s.heap.objs.size [] := by
        refine ⟨_, _, _, hO, .nil, List.nodup_nil, (fun e he => by simp at he), by decide, rfl, .inr rfl, ?_, (fun e he => by simp at he)⟩
        change (!byTx w) = true ∨ _
        cases byTx w <;> simp
      have hz : (s.heap.push { cls := .type "set", dict := none, data := .set #[] 0 (.fresh 0 0 (!byTx w)) }).objs.size = s.heap.objs.size + 1 := Heap.size_push ..
      have hVT := hT _ kp
      generalize s.heap.push { cls := .type "set", dict := none, data := .set #[] 0 (.fresh 0 0 (!byTx w)) } = H1 at hO hOT kp hS0 hz hVT ⊢
      have hli := PySem.F.called_set.init.lookup
      have hbi := PySem.F.called_set.init.bind (.ref s.heap.objs.size)
      repeat (any_goals (first | assumption | wp_step))
      refine codeAny_mono (codeAny_call_builtin (R := wants (fun r s₂ => r = .none ∧ ∃ h' tk ss, s₂ = { s with heap := h', toks := tk } ∧ (∀ b o, s.heap.get? b = some o → h'.get? b = some o) ∧ SetAt prog w fb tk h' s.heap.objs.size ss ∧ ss.length ≤ n ∧ ∀ x, x ∈ ss ↔ ∃ j, j < n ∧ val j = x) E) PySem.F.called_set.init.plain PySem.F.entry_set_init (check_set_init_1 hOT ?_)) fun r₂ s₂ hr₂ => ?_
      · unfold Builtin.«set.__init__»; unfold noKeywords; unfold Builtin.Frozenset.updateFrom
        generalize hPI : pyIter = PI
        wp_walk
        subst hPI
        refine hit _ _ _ _ kp fun o fp wr St hfp hwr W hst => ?_
        refine wpAny_bind (wpAny_runValue ?_)
        have hh3 : A.in1.in1.in1.handled = none := by simp [hh]
        have hSf : s.heap.objs.size ∉ fp := fun z => by
          rcases hfp _ z with e | e
          · rw [hz] at e
            exact absurd e (Nat.ne_of_lt (Nat.lt_succ_self _))
          · exact absurd e (Nat.lt_irrefl _)
        refine set_loop (W _ hh3) s.heap.objs.size hSf hn (n - 0) 0 _ [] rfl (Nat.zero_le _) hst h1t (hS0.keep fun o e => Heap.get?_push_of_some _ e) (Nat.le_refl _) (fun x => by simp) fun s' ss mv S2 l2 m2 => ?_
        obtain ⟨h', g', d', tk', os'⟩ := s'
        have eg : g' = s.gens := mv.gens
        have ed : d' = s.drawn := mv.drawn
        have eo : os' = s.os := mv.os
        subst eg; subst ed; subst eo
        change wpAny _ _ _ _ _ _
        refine wpAny_pure ?_; change wpAny _ _ (ret Value.none) _ _ _
        refine wpAny_pure ⟨rfl, h', tk', ss, rfl, fun b o e => ?_, S2, l2, m2⟩
        have lt := Heap.lt_size e
        refine mv.heap b o (fun z => ?_) (Heap.get?_push_of_some _ (kp b o e))
        rcases List.mem_cons.mp z with z | z
        · rw [z] at lt
          exact absurd lt (Nat.lt_irrefl _)
        · rw [hwr b z, hz] at lt
          exact absurd lt (Nat.not_lt.mpr (Nat.le_succ _))
      · cases r₂ with
        | error e => exact hr₂
        | ok fl₂ =>
          cases fl₂ with
          | ret r =>
            obtain ⟨rfl, h', tk, ss, rfl, kp2, S2, l2, m2⟩ := hr₂
            repeat (any_goals (first | assumption | wp_step))
            exact h _ _ ss kp2 S2 l2 m2
          | _ => exact hr₂.elim
    | _ => exact hr.elim
end
end L2

namespace L2
open PySem PySem.Spec PyProof.Rows
/-! ## ExtS2: walking a set of texts; sorted(set(..)) -/
theorem HWpop {α : Type} : ∀ {l : List α} {k : Nat} {y : α}, l[k]? = some y → (l.eraseIdx k ++ [y]).Perm l
  | [], _, _, h => by simp at h
  | x :: l, 0, y, h => by
    obtain rfl : x = y := by simpa using h
    exact List.perm_append_comm (l₁ := l) (l₂ := [x])
  | x :: l, k + 1, y, h => by
    have := HWpop (l := l) (k := k) (y := y) (by simpa using h)
    exact this.cons x
namespace FS
theorem slot_next : Slot "set_iterator" "__next__" "set_iterator.__next__" := Slot.of (owner := "set_iterator") (n := "__next__") (by rw [typeLookup_type, builtinLookup_eq_fast]; kernel_rfl) (by decide +kernel) (by decide +kernel) (by decide +kernel) (by first | exact .inl (by decide +kernel) | exact .inr (by decide +kernel)) (by rw [isSubtype_type]; kernel_rfl)
theorem entry_next : entryFor table "set_iterator.__next__" = some Builtin.«set_iterator.__next__» := entryFor_of_tree (by kernel_rfl)
theorem args_next (a : Value) : argsOk "set_iterator.__next__" ⟨[a], []⟩ := by unfold argsOk; kernel_rfl
theorem slot_iter : Slot "set_iterator" "__iter__" "set_iterator.__iter__" := Slot.of (owner := "set_iterator") (n := "__iter__") (by rw [typeLookup_type, builtinLookup_eq_fast]; kernel_rfl) (by decide +kernel) (by decide +kernel) (by decide +kernel) (by first | exact .inl (by decide +kernel) | exact .inr (by decide +kernel)) (by rw [isSubtype_type]; kernel_rfl)
theorem entry_iter : entryFor table "set_iterator.__iter__" = some Builtin.«dict_keyiterator.__iter__» := entryFor_alias (id' := "dict_keyiterator.__iter__") (by kernel_rfl) rfl (by decide +kernel) (by kernel_rfl)
theorem args_iter (a : Value) : argsOk "set_iterator.__iter__" ⟨[a], []⟩ := by unfold argsOk; kernel_rfl
theorem entry_set_iter : entryFor table "set.__iter__" = some Builtin.«frozenset.__iter__» := entryFor_alias (id' := "frozenset.__iter__") (by kernel_rfl) rfl (by decide +kernel) (by kernel_rfl)
theorem set_len : typeLookup (.type "set") "__len__" = pure (some (.builtin "set.__len__")) := by rw [typeLookup_type, builtinLookup_eq_fast]; kernel_rfl
end FS
theorem pick_go {α : Type} (next : Nat → Nat) : ∀ (n k : Nat) (left : List α) (out : Array α), left.length = n → (pickOrder.go next n k left out).toList.Perm (out.toList ++ left)
  | 0, k, left, out, h => by
    rw [List.length_eq_zero_iff.mp h]
    unfold pickOrder.go
    simp
  | n + 1, k, left, out, h => by
    have hl : next k % left.length < left.length := Nat.mod_lt _ (by omega)
    unfold pickOrder.go
    rw [List.getElem?_eq_getElem hl]
    dsimp only
    refine (pick_go next n (k + 1) _ _ (by rw [List.length_eraseIdx_of_lt hl]; omega)).trans ?_
    rw [Array.toList_push, List.append_assoc]
    refine List.Perm.append_left _ ?_
    have := HWpop (List.getElem?_eq_getElem hl)
    exact (List.perm_append_comm).trans this
theorem pick_perm {α : Type} (next : Nat → Nat) (xs : Array α) : (pickOrder next xs).toList.Perm xs.toList := by
  unfold pickOrder
  have := pick_go next xs.size 0 xs.toList #[] (by rw [Array.length_toList])
  simpa using this
section
variable {prog : Program} {w : World} {A : Around} {E : Value → Shared → Prop} {s : Shared}
theorem wp_draw {α : Type} : ∀ (n : Nat) (xs : List α) (s : Shared) (Q : List α → Shared → Prop), n = xs.length → (∀ ys d, ys.Perm xs → Q ys { s with drawn := d }) → wpAny (model prog w) A (drawOrder n xs) Q E s
  | 0, xs, s, Q, h, k => by
    rw [List.length_eq_zero_iff.mp h.symm] at k ⊢
    exact wpAny_pure (k [] s.drawn (.refl _))
  | n + 1, [], s, Q, h, k => by cases h
  | n + 1, x :: xs, s, Q, h, k => by
    unfold drawOrder
    refine wpAny_bind (fun Γ p hΓ => ⟨by simp, ?_⟩)
    have hl : (model prog w).w.draws .order (s.drawn.get .order) % (x :: xs).length < (x :: xs).length := Nat.mod_lt _ (by simp)
    generalize (model prog w).w.draws .order (s.drawn.get .order) % (x :: xs).length = i at hl ⊢
    have go : wpAny (model prog w) A (match (x :: xs)[i]? with | some y => (do return y :: (← drawOrder n ((x :: xs).eraseIdx i))) | none => unsupported "internal:drawOrder") Q E { s with drawn := s.drawn.bump .order } := by
      rw [List.getElem?_eq_getElem hl]
      dsimp only
      refine wpAny_bind (wp_draw n _ _ _ (by rw [List.length_eraseIdx_of_lt hl]; omega) fun ys d hp => wpAny_pure (k _ d ?_))
      exact (hp.cons _).trans ((List.perm_append_comm (l₁ := [_])).trans (HWpop (List.getElem?_eq_getElem hl)))
    exact fun Γ p hΓ => go Γ p hΓ
end
end L2

namespace L2
open PySem PySem.Spec PyProof.Rows
section
variable {prog : Program} {w : World} {A : Around} {E : Value → Shared → Prop} {s : Shared} {fb : Bool} {fn : Nat}
/-- the record of a set's iterator -/
abbrev siRec (f : Value) (i : Nat) (a : Addr) (n ep : Nat) : Obj := { cls := .type "set_iterator", data := .fields #[f, .int i 0, .ref a, .int n 0, .int ep 0] }
theorem si_stop {h : Heap} {I : Addr} {Q : Option Value → Shared → Prop} {B : Around} (hB : B.handled = none) {K : PySem.Fin → Shared → Prop}
    (hQ : ∀ h', Heap.ExtBut I s.heap h' → Q none { s with heap := h' }) (hE : Heap.ExtBut I s.heap h) :
    wpAny (model prog w) B (newExc (.type "StopIteration") [] >>= fun e => raiseNew (α := PySem.Fin) e) K (fun e s' => wpAny (model prog w) A (isInstance e (.type "StopIteration") >>= fun b => if b then pure none else throw e) Q E s') { s with heap := h } := by
  refine wpAny_bind ?_
  simp only [newExc, newTuple]
  refine wpAny_bind (wpAny_newObj_type ?_ (by size_fits))
  refine wpAny_bind (m := firstArgMember _ _) (wpAny_of_eq (a := Value.none) (by first | rfl | (simp only [firstArgMember]; rfl)) ?_)
  refine wpAny_newObj_type ?_ (by size_fits)
  simp only [raiseNew]
  refine wpAny_bind (wpAny_handled ?_)
  rw [hB]
  refine wpAny_bind (wpAny_pure (wpAny_throw ?_))
  refine wpAny_bind (wpAny_isInstance (T := "StopIteration") (b := true) ⟨_, Heap.get?_push_size _ rfl, rfl⟩ isSubtype_stop ?_)
  exact wpAny_pure (hQ _ ((hE.push _).push _))
/-- the next one where the walk goes by slots -/
theorem si_slot {I a : Addr} {es : Array (Int × Value)} {ep i sl nx : Nat} {t : SetTable} {ss : List Str} {x : Value} {Q : Option Value → Shared → Prop} (hI : s.heap.get? I = some (siRec (.int sl 0) i a es.size ep)) (S : SetS prog w fb fn s.heap a es ep t ss)
    (hx : ∀ (B : Around) (K : Option (Value × Nat) → Shared → Prop) (E' : Value → Shared → Prop), K (some (x, nx)) s → wpAny (model prog w) B (setNext a sl i ep) K E' s)
    (hQ : ∀ h', h'.get? I = some (siRec (.int nx 0) (i + 1) a es.size ep) → Heap.SameBut I s.heap h' → Q (some x) { s with heap := h' }) : wpAny (model prog w) A (pyNext (.ref I)) Q E s := by
  have hT : s.TypeIs (.ref I) "set_iterator" := ⟨_, hI, rfl⟩
  unfold pyNext
  refine wpAny_bind (wpAny_attempt (wpAny_callSpecial?_slot (name := Str.ofString "__next__") hT FS.slot_next (wpAny_call_entry FS.slot_next hT FS.entry_next ?_ (FS.args_next _))))
  change wpAny _ _ (fieldsOf (.ref I) >>= _) _ _ s
  refine wpAny_bind (wpAny_fieldsOf hI rfl ?_)
  dsimp only
  change wpAny _ _ (setEntries a >>= _) _ _ s
  refine wpAny_bind (wpAny_setEntries_of S.at_ rfl S.fits ?_)
  rw [if_neg (by simp)]
  simp only [Int.toNat_natCast]
  refine wpAny_bind (hx _ _ _ ?_)
  dsimp only
  refine wpAny_bind (wpAny_setField_rec hI (by simp) fun h1 e1 b1 => ?_)
  refine wpAny_bind (wpAny_setField_rec e1 (by simp) fun h2 e2 b2 => ?_)
  refine wpAny_pure ⟨_, rfl, wpAny_pure (hQ h2 ?_ (b1.trans b2))⟩
  rw [e2]
  simp [siRec, rawInt]
theorem si_slot_end {I a : Addr} {es : Array (Int × Value)} {ep i sl : Nat} {t : SetTable} {ss : List Str} {Q : Option Value → Shared → Prop} (hh : A.handled = none) (hI : s.heap.get? I = some (siRec (.int sl 0) i a es.size ep)) (S : SetS prog w fb fn s.heap a es ep t ss)
    (hx : ∀ (B : Around) (K : Option (Value × Nat) → Shared → Prop) (E' : Value → Shared → Prop), K none s → wpAny (model prog w) B (setNext a sl i ep) K E' s)
    (hQ : ∀ h', Heap.ExtBut I s.heap h' → Q none { s with heap := h' }) : wpAny (model prog w) A (pyNext (.ref I)) Q E s := by
  have hT : s.TypeIs (.ref I) "set_iterator" := ⟨_, hI, rfl⟩
  unfold pyNext
  refine wpAny_bind (wpAny_attempt (wpAny_callSpecial?_slot (name := Str.ofString "__next__") hT FS.slot_next (wpAny_call_entry FS.slot_next hT FS.entry_next ?_ (FS.args_next _))))
  change wpAny _ _ (fieldsOf (.ref I) >>= _) _ _ s
  refine wpAny_bind (wpAny_fieldsOf hI rfl ?_)
  dsimp only
  change wpAny _ _ (setEntries a >>= _) _ _ s
  refine wpAny_bind (wpAny_setEntries_of S.at_ rfl S.fits ?_)
  rw [if_neg (by simp)]
  simp only [Int.toNat_natCast]
  refine wpAny_bind (hx _ _ _ ?_)
  dsimp only
  refine wpAny_bind (wpAny_setField_rec hI (by simp) fun h1 e1 b1 => ?_)
  exact si_stop (show A.in1.handled = none from hh) hQ b1.extBut
/-- .. where its places were drawn -/
theorem si_drawn {I a T : Addr} {es : Array (Int × Value)} {ep i pl m : Nat} {u : Tok} {t : SetTable} {ss : List Str} {k : Int} {x : Value} {items : Array Value} {Q : Option Value → Shared → Prop} (hI : s.heap.get? I = some (siRec (.ref T) i a es.size ep)) (S : SetS prog w fb fn s.heap a es ep t ss)
    (hT2 : s.heap.get? T = some { cls := .type "tuple", data := .seq items m }) (hi : items[i]? = some (.int pl u)) (hx : es[pl]? = some (k, x))
    (hQ : ∀ h', h'.get? I = some (siRec (.ref T) (i + 1) a es.size ep) → Heap.SameBut I s.heap h' → Q (some x) { s with heap := h' }) : wpAny (model prog w) A (pyNext (.ref I)) Q E s := by
  have hT : s.TypeIs (.ref I) "set_iterator" := ⟨_, hI, rfl⟩
  unfold pyNext
  refine wpAny_bind (wpAny_attempt (wpAny_callSpecial?_slot (name := Str.ofString "__next__") hT FS.slot_next (wpAny_call_entry FS.slot_next hT FS.entry_next ?_ (FS.args_next _))))
  change wpAny _ _ (fieldsOf (.ref I) >>= _) _ _ s
  refine wpAny_bind (wpAny_fieldsOf hI rfl ?_)
  dsimp only
  change wpAny _ _ (setEntries a >>= _) _ _ s
  refine wpAny_bind (wpAny_setEntries_of S.at_ rfl S.fits ?_)
  rw [if_neg (by simp)]
  refine wpAny_bind (wpAny_seqItems hT2 rfl ?_)
  simp only [Int.toNat_natCast, hi]
  unfold setNextDrawn
  refine wpAny_bind (wpAny_bind (wpAny_setState_of S.at_ rfl S.fits ?_))
  dsimp only
  rw [if_neg (by simp)]
  simp only [hx]
  refine wpAny_pure ?_
  refine wpAny_bind (wpAny_setField_rec hI (by simp) fun h1 e1 b1 => ?_)
  refine wpAny_pure ⟨_, rfl, wpAny_pure (hQ h1 ?_ b1)⟩
  rw [e1]
  simp [siRec, rawInt]
theorem si_drawn_end {I a T : Addr} {es : Array (Int × Value)} {ep i m : Nat} {t : SetTable} {ss : List Str} {items : Array Value} {Q : Option Value → Shared → Prop} (hh : A.handled = none) (hI : s.heap.get? I = some (siRec (.ref T) i a es.size ep)) (S : SetS prog w fb fn s.heap a es ep t ss)
    (hT2 : s.heap.get? T = some { cls := .type "tuple", data := .seq items m }) (hi : items[i]? = none)
    (hQ : ∀ h', Heap.ExtBut I s.heap h' → Q none { s with heap := h' }) : wpAny (model prog w) A (pyNext (.ref I)) Q E s := by
  have hT : s.TypeIs (.ref I) "set_iterator" := ⟨_, hI, rfl⟩
  unfold pyNext
  refine wpAny_bind (wpAny_attempt (wpAny_callSpecial?_slot (name := Str.ofString "__next__") hT FS.slot_next (wpAny_call_entry FS.slot_next hT FS.entry_next ?_ (FS.args_next _))))
  change wpAny _ _ (fieldsOf (.ref I) >>= _) _ _ s
  refine wpAny_bind (wpAny_fieldsOf hI rfl ?_)
  dsimp only
  change wpAny _ _ (setEntries a >>= _) _ _ s
  refine wpAny_bind (wpAny_setEntries_of S.at_ rfl S.fits ?_)
  rw [if_neg (by simp)]
  refine wpAny_bind (wpAny_seqItems hT2 rfl ?_)
  simp only [Int.toNat_natCast, hi]
  refine wpAny_bind (wpAny_setField_rec hI (by simp) fun h1 e1 b1 => ?_)
  refine wpAny_bind (wpAny_setField_rec e1 (by simp) fun h2 e2 b2 => ?_)
  exact si_stop (s := s) (show A.in1.handled = none from hh) hQ (b1.trans b2).extBut
theorem SetS.keep {h h' : Heap} {a : Addr} {es : Array (Int × Value)} {ep : Nat} {t : SetTable} {ss : List Str} (S : SetS prog w fb fn h a es ep t ss) (k : ∀ o, h.get? a = some o → h'.get? a = some o) : SetS prog w fb fn h' a es ep t ss :=
  ⟨k _ S.at_, S.txs, S.nd, S.el, S.few, S.fits, S.pl, S.led, S.tb⟩
theorem nx_text {a : Addr} {es : Array (Int × Value)} {ep i sl : Nat} {t : SetTable} {ss : List Str} {K : Option (Value × Nat) → Shared → Prop} (S : SetS prog w fb fn s.heap a es ep t ss) (hb : byTx w = true)
    (h : K (((pickOrder (w.params.setOrder a ep) es)[i]?).map fun e => (e.2, sl)) s) : wpAny (model prog w) A (setNext a sl i ep) K E s := by
  have eb : ({ program := (model prog w).prog, params := (model prog w).w.params } : Setting).params.followText "set-order" = true := hb
  unfold setNext
  refine wpAny_bind (wpAny_setState_of S.at_ rfl S.fits ?_)
  dsimp only
  unfold setsByText
  refine wpAny_bind (wpAny_bind (wpAny_askSetting (wpAny_pure ?_)))
  rw [if_pos eb, if_neg (by simp)]
  unfold setWalk
  refine wpAny_bind (wpAny_bind (wpAny_setState_of S.at_ rfl S.fits ?_))
  dsimp only
  unfold setsByText
  refine wpAny_bind (wpAny_bind (wpAny_askSetting (wpAny_pure ?_)))
  rw [if_pos eb]
  exact wpAny_bind (wpAny_askSetting (wpAny_pure (wpAny_pure h)))
theorem nx_few {a : Addr} {es : Array (Int × Value)} {ep i sl : Nat} {t : SetTable} {ss : List Str} {K : Option (Value × Nat) → Shared → Prop} (S : SetS prog w fb fn s.heap a es ep t ss) (hb : byTx w = false) (hf : es.size ≤ 1)
    (h : K (match es[SetTable.below t.place sl]?, t.place[SetTable.below t.place sl]? with | some (_, x), some j => some (x, j + 1) | _, _ => none) s) : wpAny (model prog w) A (setNext a sl i ep) K E s := by
  have hl : t.led = true := S.led.resolve_right (by rw [hb]; simp)
  have eb : ¬ ({ program := (model prog w).prog, params := (model prog w).w.params } : Setting).params.followText "set-order" = true := by show ¬ byTx w = true; rw [hb]; simp
  unfold setNext
  refine wpAny_bind (wpAny_setState_of S.at_ rfl S.fits ?_)
  dsimp only
  unfold setsByText
  refine wpAny_bind (wpAny_bind (wpAny_askSetting (wpAny_pure ?_)))
  rw [if_neg eb]
  split
  · rename_i hd
    have : (!t.plain && decide (es.size > 1)) = true := hd
    simp at this
    omega
  · refine wpAny_bind ?_
    change wpAny _ _ (if (!t.led && !es.isEmpty) = true then _ else _) _ _ _
    rw [hl, if_neg (by simp)]
    exact wpAny_pure (wpAny_pure h)
end
end L2

namespace L2
open PySem PySem.Spec PyProof.Rows
section
variable {prog : Program} {w : World} {A : Around} {E : Value → Shared → Prop} {s : Shared} {fb : Bool} {fn : Nat}
theorem si_self {I a : Addr} {f : Value} {i n ep : Nat} {Q : Value → Shared → Prop} (hI : s.heap.get? I = some (siRec f i a n ep)) (h : Q (.ref I) s) : wpAny (model prog w) A (pyIter (.ref I)) Q E s := by
  have hT : s.TypeIs (.ref I) "set_iterator" := ⟨_, hI, rfl⟩
  refine wpAny_pyIter_slot hT FS.slot_iter (wpAny_call_entry FS.slot_iter hT FS.entry_iter ?_ (FS.args_iter _))
  change wpAny _ _ (ret (.ref I)) _ _ s
  exact wpAny_pure ⟨_, rfl, "set_iterator", _, hT, FS.slot_next.lookup, h⟩
/-- the values of a set, by places -/
abbrev setVs (es : Array (Int × Value)) : List Value := es.toList.map (·.2)
theorem walk_text (hh : A.handled = none) {I a : Addr} (ha : a ≠ I) {es : Array (Int × Value)} {ep : Nat} {t : SetTable} {ss : List Str} (hb : byTx w = true) :
    Walks prog w A I [I, a] [I] ((pickOrder (w.params.setOrder a ep) es).toList.map (·.2)).length (fun i v => ((pickOrder (w.params.setOrder a ep) es).toList.map (·.2))[i]? = some v)
      (fun i h => h.get? I = some (siRec (.int (0 : Nat) 0) i a es.size ep) ∧ SetS prog w fb fn h a es ep t ss) where
  sub := fun b hb => by rw [List.mem_singleton.mp hb]; exact .head _
  frame := fun i h h' st hk => ⟨hk I (.head _) _ st.1, st.2.keep fun o e => hk a (.tail _ (.head _)) o e⟩
  item := fun i s Q E hi st hQ => by
    obtain ⟨e, he⟩ : ∃ e, (pickOrder (w.params.setOrder a ep) es)[i]? = some e := ⟨_, Array.getElem?_eq_getElem (by rw [List.length_map, Array.length_toList] at hi; exact hi)⟩
    refine si_slot (x := e.2) (nx := 0) st.1 st.2 (fun B K E' k => nx_text st.2 hb (by rw [he]; exact k)) fun h' e' sb => ?_
    exact hQ e.2 h' s.toks (by rw [List.getElem?_map, Array.getElem?_toList, he]; rfl) ⟨e', st.2.keep fun o q => (sb.2 a ha).trans q⟩ fun b o nb q => (sb.2 b (fun z => nb (z ▸ .head _))).trans q
  done := fun s Q E st hQ => by
    refine si_slot_end hh st.1 st.2 (fun B K E' k => nx_text st.2 hb ?_) fun h' ex => hQ h' s.toks fun b o nb q => ex b o (fun z => nb (z ▸ .head _)) q
    rw [Array.getElem?_eq_none (by rw [List.length_map, Array.length_toList]; exact Nat.le_refl _)]
    exact k
  self := fun i s Q E st hQ => si_self st.1 hQ
theorem walk_drawn (hh : A.handled = none) {I a T : Addr} (ha : a ≠ I) (hT : T ≠ I) {es : Array (Int × Value)} {ep : Nat} {t : SetTable} {ss : List Str} (ps : List Nat) (hp : ∀ p ∈ ps, p < es.size) :
    Walks prog w A I [I, a, T] [I] (ps.map fun p => (setVs es).getD p .none).length (fun i v => (ps.map fun p => (setVs es).getD p .none)[i]? = some v)
      (fun i h => h.get? I = some (siRec (.ref T) i a es.size ep) ∧ SetS prog w fb fn h a es ep t ss ∧ h.get? T = some { cls := .type "tuple", data := .seq (ps.map fun (p : Nat) => rawInt p).toArray }) where
  sub := fun b hb => by rw [List.mem_singleton.mp hb]; exact .head _
  frame := fun i h h' st hk => ⟨hk I (.head _) _ st.1, st.2.1.keep fun o e => hk a (.tail _ (.head _)) o e, hk T (.tail _ (.tail _ (.head _))) _ st.2.2⟩
  item := fun i s Q E hi st hQ => by
    rw [List.length_map] at hi
    have hps : ps[i]? = some ps[i] := List.getElem?_eq_getElem hi
    have hlt := hp _ (List.getElem_mem hi)
    have he : es[ps[i]]? = some (es[ps[i]].1, es[ps[i]].2) := Array.getElem?_eq_getElem hlt
    refine si_drawn (pl := ps[i]) (u := 0) st.1 st.2.1 st.2.2 (by simp [rawInt, hps]) he fun h' e' sb => ?_
    refine hQ _ h' s.toks ?_ ⟨e', st.2.1.keep fun o q => (sb.2 a ha).trans q, (sb.2 T hT).trans st.2.2⟩ fun b o nb q => (sb.2 b (fun z => nb (z ▸ .head _))).trans q
    rw [List.getElem?_map, hps]
    show some ((setVs es).getD ps[i] .none) = _
    rw [List.getD_eq_getElem?_getD, List.getElem?_map, Array.getElem?_toList, he]
    rfl
  done := fun s Q E st hQ => si_drawn_end hh st.1 st.2.1 st.2.2 (by simp) fun h' ex => hQ h' s.toks fun b o nb q => ex b o (fun z => nb (z ▸ .head _)) q
  self := fun i s Q E st hQ => si_self st.1 hQ
theorem below_one (j : Nat) : SetTable.below #[j] 0 = 0 ∧ SetTable.below #[j] (j + 1) = 1 := by
  constructor
  · simp [SetTable.below, SetTable.below.go]
  · simp [SetTable.below, SetTable.below.go]
theorem walk_few (hh : A.handled = none) {I a : Addr} (ha : a ≠ I) {es : Array (Int × Value)} {ep : Nat} {t : SetTable} {ss : List Str} (hb : byTx w = false) (hf : es.size ≤ 1) (hpz : t.place.size = es.size) :
    Walks prog w A I [I, a] [I] (setVs es).length (fun i v => (setVs es)[i]? = some v)
      (fun i h => h.get? I = some (siRec (.int (if i = 0 then 0 else t.place.getD 0 0 + 1 : Nat) 0) i a es.size ep) ∧ SetS prog w fb fn h a es ep t ss) where
  sub := fun b hb => by rw [List.mem_singleton.mp hb]; exact .head _
  frame := fun i h h' st hk => ⟨hk I (.head _) _ st.1, st.2.keep fun o e => hk a (.tail _ (.head _)) o e⟩
  item := fun i s Q E hi st hQ => by
    rw [List.length_map, Array.length_toList] at hi
    obtain rfl : i = 0 := by omega
    have hz : es.size = 1 := by omega
    obtain ⟨e, rfl⟩ : ∃ e, es = #[e] := Array.size_eq_one_iff.mp hz
    obtain ⟨j, hj⟩ : ∃ j, t.place = #[j] := Array.size_eq_one_iff.mp (hpz.trans hz)
    refine si_slot (x := e.2) (nx := j + 1) st.1 st.2 (fun B K E' k => nx_few st.2 hb hf ?_) fun h' e' sb => ?_
    · rw [if_pos rfl, hj, (below_one j).1]
      exact k
    · refine hQ e.2 h' s.toks rfl ⟨?_, st.2.keep fun o q => (sb.2 a ha).trans q⟩ fun b o nb q => (sb.2 b (fun z => nb (z ▸ .head _))).trans q
      rw [e', hj]
      rfl
  done := fun s Q E st hQ => by
    refine si_slot_end hh st.1 st.2 (fun B K E' k => nx_few st.2 hb hf ?_) fun h' ex => hQ h' s.toks fun b o nb q => ex b o (fun z => nb (z ▸ .head _)) q
    have hl : (setVs es).length = es.size := by rw [List.length_map, Array.length_toList]
    rw [hl]
    by_cases hz : es.size = 0
    · rw [if_pos hz]
      obtain rfl := Array.size_eq_zero_iff.mp hz
      exact k
    · obtain ⟨e, rfl⟩ : ∃ e, es = #[e] := Array.size_eq_one_iff.mp (by omega)
      obtain ⟨j, hj⟩ : ∃ j, t.place = #[j] := Array.size_eq_one_iff.mp hpz
      rw [if_neg hz, hj]
      show K (match #[e][SetTable.below #[j] (j + 1)]?, #[j][SetTable.below #[j] (j + 1)]? with | some (_, x), some j => some (x, j + 1) | _, _ => none) s
      rw [(below_one j).2]
      exact k
  self := fun i s Q E st hQ => si_self st.1 hQ
theorem range_get {α : Type} (d : α) : ∀ l : List α, (List.range l.length).map (fun p => l.getD p d) = l
  | [] => rfl
  | x :: l => by
    rw [List.length_cons, List.range_succ_eq_map, List.map_cons, List.map_map]
    have := range_get d l
    show x :: _ = _
    congr 1
/-- iter(a set of texts) -/
theorem iter_set {a : Addr} {ss : List Str} {Q : Value → Shared → Prop} (hS : SetAt prog w fb fn s.heap a ss)
    (hQ : ∀ (s' : Shared) (I : Addr) (fp : List Addr) (vs : List Value) (ss' : List Str) (St : Nat → Heap → Prop), (∀ b o, s.heap.get? b = some o → s'.heap.get? b = some o) → s'.gens = s.gens → s'.os = s.os → s.heap.objs.size ≤ I → (∀ b ∈ fp, b = a ∨ s.heap.objs.size ≤ b) →
      (∀ A' : Around, A'.handled = none → Walks prog w A' I fp [I] vs.length (fun i v => vs[i]? = some v) St) → St 0 s'.heap → StrsAre vs ss' → ss'.Perm ss → (∀ v ∈ vs, TokB fb fn v) → Q (.ref I) s') :
    wpAny (model prog w) A (pyIter (.ref a)) Q E s := by
  obtain ⟨es, ep, t, S⟩ := hS
  have hT : s.TypeIs (.ref a) "set" := ⟨_, S.at_, rfl⟩
  have hlt := Heap.lt_size S.at_
  have hza : (setVs es).length = es.size := by rw [List.length_map, Array.length_toList]
  refine wpAny_pyIter_slot hT PySem.F.slot_set_iter (wpAny_call_entry PySem.F.slot_set_iter hT FS.entry_set_iter ?_ (PySem.F.args_set_iter_1 _))
  unfold Builtin.«frozenset.__iter__»
  refine wpAny_bind (m := Builtin.Frozenset.slot0 _ _) (wpAny_pure (a := a) ?_)
  refine wpAny_bind (m := Builtin.Frozenset.sizeOf a) ?_
  unfold Builtin.Frozenset.sizeOf
  refine wpAny_bind (wpAny_setEntries_of S.at_ rfl S.fits (wpAny_pure ?_))
  refine wpAny_bind (m := setDrawn a) ?_
  unfold setDrawn
  refine wpAny_bind (wpAny_setState_of S.at_ rfl S.fits ?_)
  dsimp only
  unfold setsByText
  refine wpAny_bind (wpAny_bind (wpAny_askSetting (wpAny_pure (wpAny_pure ?_))))
  have hfz : t.place.size = es.size := by
    have := S.fits
    simp only [SetTable.fits, Bool.and_eq_true, beq_iff_eq] at this
    exact this.1
  have fin : ∀ (vs : List Value), vs.Perm (setVs es) → ∃ ss', StrsAre vs ss' ∧ ss'.Perm ss := fun vs hp => strsAre_perm hp.symm S.txs
  have tbs : ∀ (vs : List Value), vs.Perm (setVs es) → ∀ v ∈ vs, TokB fb fn v := fun vs hp v hv => by
    obtain ⟨e, he, rfl⟩ := List.mem_map.mp (hp.mem_iff.mp hv)
    exact S.tb e he
  have hI : a ≠ s.heap.objs.size := Nat.ne_of_lt hlt
  cases hb : byTx w with
  | true =>
    have eb : ({ program := (model prog w).prog, params := (model prog w).w.params } : Setting).params.followText "set-order" = true := hb
    rw [eb]
    refine wpAny_bind (wpAny_pure (a := rawInt 0) ?_)
    refine wpAny_bind (wpAny_setEpoch_of S.at_ rfl S.fits (wpAny_bind (wpAny_newObj_type (wpAny_pure ?_))))
    have kp : ∀ b o, s.heap.get? b = some o → (s.heap.push (siRec (.int (0 : Nat) 0) 0 a es.size ep)).get? b = some o := fun b o e => Heap.get?_push_of_some _ e
    have hn : (s.heap.push (siRec (.int (0 : Nat) 0) 0 a es.size ep)).get? s.heap.objs.size = some (siRec (.int (0 : Nat) 0) 0 a es.size ep) := Heap.get?_push_size _ rfl
    have hpp : ((pickOrder (w.params.setOrder a ep) es).toList.map (·.2)).Perm (setVs es) := (pick_perm _ es).map _
    obtain ⟨ss', h1, h2⟩ := fin _ hpp
    exact ⟨_, rfl, "set_iterator", _, ⟨_, hn, rfl⟩, FS.slot_next.lookup, hQ _ _ _ _ ss' _ kp rfl rfl (Nat.le_refl _) (fun b hb => by
      rcases List.mem_cons.mp hb with z | z
      · exact .inr (Nat.le_of_eq z.symm)
      · exact .inl (List.mem_singleton.mp z)) (fun A' hh => walk_text (t := t) (ss := ss) hh hI hb) ⟨hn, S.keep fun o e => kp a o e⟩ h1 h2 (tbs _ hpp)⟩
  | false =>
    have eb : ({ program := (model prog w).prog, params := (model prog w).w.params } : Setting).params.followText "set-order" = false := hb
    rw [eb]
    split
    · rename_i hd
      refine wpAny_bind (wp_draw es.size (List.range es.size) s _ List.length_range.symm fun ps d hp => ?_)
      refine wpAny_bind (wpAny_newTuple ?_ (by rw [List.length_map, hp.length_eq, List.length_range]; exact fits_of_scanBound S.few))
      have k1 : ∀ b o, s.heap.get? b = some o → (s.heap.push { cls := .type "tuple", data := .seq (ps.map fun (p : Nat) => rawInt p).toArray }).get? b = some o := fun b o e => Heap.get?_push_of_some _ e
      have n1 : (s.heap.push { cls := .type "tuple", data := .seq (ps.map fun (p : Nat) => rawInt p).toArray }).get? s.heap.objs.size = some { cls := .type "tuple", data := .seq (ps.map fun (p : Nat) => rawInt p).toArray } := Heap.get?_push_size _ rfl
      have z1 : (s.heap.push { cls := .type "tuple", data := .seq (ps.map fun (p : Nat) => rawInt p).toArray }).objs.size = s.heap.objs.size + 1 := Heap.size_push ..
      generalize s.heap.push { cls := .type "tuple", data := .seq (ps.map fun (p : Nat) => rawInt p).toArray } = H1 at k1 n1 z1 ⊢
      have S1 : SetS prog w fb fn H1 a es ep t ss := S.keep fun o e => k1 a o e
      refine wpAny_bind (wpAny_setEpoch_of (s := { s with heap := H1, drawn := d }) S1.at_ rfl S1.fits (wpAny_bind (wpAny_newObj_type (wpAny_pure ?_))))
      have kp : ∀ b o, H1.get? b = some o → (H1.push (siRec (.ref s.heap.objs.size) 0 a es.size ep)).get? b = some o := fun b o e => Heap.get?_push_of_some _ e
      have hn : (H1.push (siRec (.ref s.heap.objs.size) 0 a es.size ep)).get? H1.objs.size = some (siRec (.ref s.heap.objs.size) 0 a es.size ep) := Heap.get?_push_size _ rfl
      have hpp : (ps.map fun p => (setVs es).getD p .none).Perm (setVs es) := by
        have := hp.map fun p => (setVs es).getD p .none
        have e := range_get Value.none (setVs es)
        rw [hza] at e
        rw [e] at this
        exact this
      obtain ⟨ss', h1, h2⟩ := fin _ hpp
      have ne1 : a ≠ H1.objs.size := by rw [z1]; exact Nat.ne_of_lt (Nat.lt_succ_of_lt hlt)
      have ne2 : s.heap.objs.size ≠ H1.objs.size := by rw [z1]; exact Nat.ne_of_lt (Nat.lt_succ_self _)
      exact ⟨_, rfl, "set_iterator", _, ⟨_, hn, rfl⟩, FS.slot_next.lookup, hQ _ H1.objs.size _ _ ss' _ (fun b o e => kp b o (k1 b o e)) rfl rfl (by rw [z1]; exact Nat.le_succ _) (fun b hb => by
        rcases List.mem_cons.mp hb with z | z
        · exact .inr (by rw [z, z1]; exact Nat.le_succ _)
        · rcases List.mem_cons.mp z with z | z
          · exact .inl z
          · exact .inr (Nat.le_of_eq (List.mem_singleton.mp z).symm)) (fun A' hh => walk_drawn (t := t) (ss := ss) hh ne1 ne2 ps (fun p hpm => List.mem_range.mp (hp.mem_iff.mp hpm))) ⟨hn, S1.keep fun o e => kp a o e, kp _ _ n1⟩ h1 h2 (tbs _ hpp)⟩
    · rename_i hd
      have hd' : ¬ (!false && (!t.plain && decide (es.size > 1))) = true := hd
      have hf1 : es.size ≤ 1 := by
        rcases S.pl with z | z
        · simp [z] at hd'
          omega
        · omega
      refine wpAny_bind (wpAny_pure (a := rawInt 0) ?_)
      refine wpAny_bind (wpAny_setEpoch_of S.at_ rfl S.fits (wpAny_bind (wpAny_newObj_type (wpAny_pure ?_))))
      have kp : ∀ b o, s.heap.get? b = some o → (s.heap.push (siRec (.int (0 : Nat) 0) 0 a es.size ep)).get? b = some o := fun b o e => Heap.get?_push_of_some _ e
      have hn : (s.heap.push (siRec (.int (0 : Nat) 0) 0 a es.size ep)).get? s.heap.objs.size = some (siRec (.int (0 : Nat) 0) 0 a es.size ep) := Heap.get?_push_size _ rfl
      exact ⟨_, rfl, "set_iterator", _, ⟨_, hn, rfl⟩, FS.slot_next.lookup, hQ _ _ _ _ ss _ kp rfl rfl (Nat.le_refl _) (fun b hb => by
        rcases List.mem_cons.mp hb with z | z
        · exact .inr (Nat.le_of_eq z.symm)
        · exact .inl (List.mem_singleton.mp z)) (fun A' hh => walk_few (t := t) (ss := ss) (ep := ep) hh hI hb hf1 hfz) ⟨hn, S.keep fun o e => kp a o e⟩ S.txs (.refl _) (tbs _ (.refl _))⟩
/-- all members of a set of texts, in some order -/
theorem collect_set {a : Addr} {ss : List Str} {Q : List Value → Shared → Prop} (hh : A.handled = none) (hS : SetAt prog w fb fn s.heap a ss)
    (hQ : ∀ s' (acc : Array Value) ss', (∀ b o, s.heap.get? b = some o → s'.heap.get? b = some o) → s'.gens = s.gens → s'.os = s.os → StrsAre acc.toList ss' → ss'.Perm ss → (∀ v ∈ acc.toList, TokB fb fn v) → Q acc.toList s') (hn : ss.length ≤ sizeLine) :
    wpAny (model prog w) A (collect (.ref a)) Q E s := by
  have hlt : a < s.heap.objs.size := let ⟨_, _, _, S⟩ := hS; Heap.lt_size S.at_
  unfold collect
  refine wpAny_bind (wpAny_runValue (codeAny_builtin PySem.F.entry_proto_collect ?_)); rw [Around.under_plainId PySem.F.plain_proto_collect _]
  change wpAny _ A.in1 (newList [] >>= fun l => again (.builtin "list.__iadd__" ⟨[l, .ref a], []⟩)) _ _ s
  refine wpAny_bind (wpAny_newObj_type ?_); refine wpAny_pure ⟨plainId_quiet PySem.F.plain_list_iadd _, codeAny_builtin PySem.F.entry_list_iadd ?_⟩
  rw [Around.under_plainId PySem.F.plain_list_iadd _]; change wpAny _ A.in1 (Builtin.List.listExtendWith (.ref s.heap.objs.size) (.ref a) (.ref s.heap.objs.size)) _ _ _
  unfold Builtin.List.listExtendWith
  have k0 : ∀ b o, s.heap.get? b = some o → (s.heap.push { cls := .type "list", data := .seq ([] : List Value).toArray }).get? b = some o := fun b o e => Heap.get?_push_of_some _ e
  have n0 : (s.heap.push { cls := .type "list", data := .seq ([] : List Value).toArray }).get? s.heap.objs.size = some { cls := .type "list", data := .seq ([] : List Value).toArray } := Heap.get?_push_size _ rfl
  have z0 : (s.heap.push { cls := .type "list", data := .seq ([] : List Value).toArray }).objs.size = s.heap.objs.size + 1 := Heap.size_push ..
  generalize s.heap.push { cls := .type "list", data := .seq ([] : List Value).toArray } = H0 at k0 n0 z0 ⊢
  have S0 : SetAt prog w fb fn H0 a ss := hS.keep fun o e => k0 a o e
  have hT : ∀ (s' : Shared), SetAt prog w fb fn s'.heap a ss → s'.TypeIs (.ref a) "set" := fun s' ⟨_, _, _, S⟩ => ⟨_, S.at_, rfl⟩
  refine wpAny_bind (wpAny_typeOf (hT { s with heap := H0 } S0) ?_)
  have g1 : Builtin.List.listSameRef (.ref s.heap.objs.size) (.ref a) = false := by simp [Builtin.List.listSameRef, Nat.ne_of_gt hlt]
  have g2 : (Value.type "set" == Value.type "list") = false := by decide
  have g3 : (Value.type "set" == Value.type "tuple") = false := by decide
  simp only [g1, g2, g3, Bool.or_false, Bool.false_eq_true, if_false]
  refine wpAny_bind (iter_set (s := { s with heap := H0 }) S0 fun s1 I fp vs ss' St kp hg ho hI hfp W st h1 h2 htb => ?_)
  have S1 : SetAt prog w fb fn s1.heap a ss := S0.keep fun o e => kp a o e
  have hvl : vs.length = ss.length := by rw [strsAre_len h1, h2.length_eq]
  refine wpAny_bind (wpAny_holding ?_); unfold Builtin.List.listLengthHint
  refine wpAny_bind (wpAny_specialOf (hT s1 S1) FS.set_len ?_)
  wp_delta
  refine wpAny_bind (wpAny_isInstance (hT s1 S1) (b := true) (by rw [isSubtype_type]; kernel_rfl) ?_)
  change wpAny _ A.in1 (typeOf (Value.ref a) >>= _) _ _ _
  refine wpAny_bind (wpAny_typeOf (hT s1 S1) ?_)
  refine wpAny_pure ?_; rw [if_pos (by decide)]
  have hSf : s.heap.objs.size ∉ fp := fun z => by
    rcases hfp _ z with e | e
    · exact absurd hlt (e ▸ Nat.lt_irrefl _)
    · have e' : s.heap.objs.size + 1 ≤ s.heap.objs.size := z0 ▸ e
      exact absurd e' (Nat.not_succ_le_self _)
  have n1 := kp _ _ n0
  refine wpAny_bind (wpAny_rule (wpAny_bind ?_)); change wpAny _ A.in1 (updateSeq s.heap.objs.size (·.push .none) >>= fun _ => updateSeq s.heap.objs.size (·.pop)) _ _ _
  refine wpAny_bind (wpAny_updateSeq n1 rfl ?_)
  have n2 := Heap.get?_update_self (Obj.mapSeq (·.push Value.none)) n1 rfl
  refine wpAny_updateSeq n2 rfl ?_
  have n3 := Heap.get?_update_self (Obj.mapSeq (·.pop)) n2 rfl
  have oth : ∀ b o, b ≠ s.heap.objs.size → s1.heap.get? b = some o → ((s1.heap.update s.heap.objs.size (Obj.mapSeq (·.push Value.none))).update s.heap.objs.size (Obj.mapSeq (·.pop))).get? b = some o := fun b o hb e => (Heap.get?_update_other _ _ (Ne.symm hb)).trans ((Heap.get?_update_other _ _ (Ne.symm hb)).trans e)
  have st2 := (W A.in1 hh).frame 0 _ _ st fun b hb o e => oth b o (fun z => hSf (z ▸ hb)) e
  refine wpAny_pure ⟨plainId_quiet PySem.F.plain_extend_loop _, codeAny_extend_loopS (W A.in1 hh).toS (by rw [hvl]; exact hn) _ hSf _ vs.length 0 _ _ _ rfl (Nat.zero_le _) st2 n3 (ItemsOf.nil _) fun s' acc' c' hm hS' hacc => ?_⟩
  change wpAny _ A (load s.heap.objs.size >>= _) _ _ s'
  refine wpAny_bind (wpAny_load hS' ?_)
  have ev : acc'.toList = vs := by
    apply List.ext_getElem?
    intro j
    by_cases hj : j < acc'.size
    · rw [Array.getElem?_toList]
      have e := Array.getElem?_eq_getElem hj
      rw [e]
      exact (hacc.2 j _ e).symm
    · rw [List.getElem?_eq_none (by rw [Array.length_toList]; omega), List.getElem?_eq_none (by rw [hacc.1] at hj; omega)]
  refine wpAny_pure (hQ s' acc' ss' (fun b o e => hm.heap b o (fun hb => ?_) (oth b o (Nat.ne_of_lt (Heap.lt_size e)) (kp b o (k0 b o e)))) (hm.gens.trans hg) (hm.os.trans ho) (by rw [ev]; exact h1) h2 (by rw [ev]; exact htb))
  have hlb := Heap.lt_size e
  rcases List.mem_cons.mp hb with z | z
  · exact absurd hlb (z ▸ Nat.lt_irrefl _)
  · rw [List.mem_singleton.mp z] at hlb
    have e' : s.heap.objs.size + 1 ≤ I := z0 ▸ hI
    exact absurd hlb (Nat.not_lt.mpr (Nat.le_of_succ_le e'))
end
end L2

namespace L2
open PySem PySem.Spec PyProof.Rows
section
variable {prog : Program} {w : World} {A : Around} {E : Value → Shared → Prop} {s : Shared} {fb : Bool} {fn : Nat}
theorem sorted_set {a : Addr} {ss : List Str} {Q : Value → Shared → Prop} (hh : A.in1.handled = none) (hS : SetAt prog w fb fn s.heap a ss) (h64 : ss.length < 64)
    (h : ∀ (s' : Shared) (h' : Heap) (out : Array Value) (ss' : List Str) e, (∀ b o, s.heap.get? b = some o → s'.heap.get? b = some o) → s'.gens = s.gens → s'.os = s.os → (∀ b o, s'.heap.get? b = some o → h'.get? b = some o) → h'.get? s'.heap.objs.size = some (seqObj "list" out e) →
      StrsAre out.toList ss' → ss'.Perm ss → sortedS ss' = true → (∀ v ∈ out.toList, TokB fb fn v) → Q (.ref s'.heap.objs.size) { s' with heap := h' }) :
    wpAny (model prog w) A (call (.builtin "sorted") [.ref a]) Q E s := by
  refine Calls.call_function_entry kind_sorted plain_sorted entry_sorted (args_sorted1 _) ?_
  unfold Builtin.«sorted»
  refine wpAny_bind (m := checkCount "sorted" 1 1 _) (wpAny_pure ?_)
  refine wpAny_bind (collect_set hh hS (fun s' acc s1 kp hg hos hS1 p1 htb => ?_) (by rw [sizeLine_eq]; omega))
  have hl : acc.toList.length = ss.length := by rw [strsAre_len hS1, p1.length_eq]
  refine wpAny_bind (wpAny_newList ?_ (by rw [sizeLine_eq]; omega))
  have hoL : (s'.heap.push (seqObj "list" acc.toList.toArray 0)).get? s'.heap.objs.size = some (seqObj "list" acc.toList.toArray 0) := Heap.get?_push_size _ rfl
  refine wpAny_bind (wpAny_holding (wpAny_call_entry slot_list_sort ⟨_, hoL, rfl⟩ entry_list_sort (list_sort_treeK strKind_oneLt hoL hS1.keysOf (fun v₁ v₂ rest e => keyKind_strs (by rw [← e]; exact hS1)) (by omega) fun st' a1 a2 => ⟨_, rfl, ?_⟩) (args_list_sort _)))
  obtain ⟨ss', h1, h2, h3⟩ := sorted_out_str hS1 a1 a2
  obtain ⟨e, he⟩ := sortedHeap_at (out := (arrOf st').map (·.2)) hoL
  refine wpAny_pure ⟨_, rfl, h s' _ _ ss' e kp hg hos (fun b o q => ?_) he h1 (h2.trans p1) h3 fun v hv => ?_⟩
  · have hlt := Heap.lt_size q
    rw [sortedHeap_old (Nat.ne_of_lt hlt) (by rw [size_push']; exact Nat.lt_succ_of_lt hlt), Heap.get?_push_ne _ _ _ (Nat.ne_of_lt hlt)]
    exact q
  · rw [Array.toList_map] at hv
    obtain ⟨p, hp, rfl⟩ := List.mem_map.mp hv
    have hz := (Array.perm_iff_toList_perm.mp a1).mem_iff.mp hp
    rw [pairsOf_toList] at hz
    exact htb _ (List.of_mem_zip hz).2
theorem sw_text (hh : A.handled = none) (I : Addr) (x : Str) (t : Tok) (ty : String) (hty : ty = "str_ascii_iterator" ∨ ty = "str_iterator") :
    SW prog w A I [I] [I] x.cps.size (fun i => ⟨#[x.cps.getD i 0]⟩) true (fun i s => s.heap.IsStrIter I ty x t i) where
  sub := fun _ hb => hb
  frame := fun i s h' tk st _ hk => let ⟨o, ho, r⟩ := st; ⟨o, hk I (.head _) o ho, r⟩
  item := fun i s Q E hi st hQ => by
    have hx : x.cps[i]? = some (x.cps.getD i 0) := by simp [hi]
    have go : ∀ h' : Heap, h'.IsStrIter I ty x t (i + 1) → Heap.SameBut I s.heap h' → Q (some (.str ⟨#[x.cps.getD i 0]⟩ s.toks)) { s with heap := h', toks := s.toks + 1 } := fun h' hit' sb =>
      hQ s.toks _ (fun _ => ⟨Nat.le_refl _, Nat.lt_succ_self _⟩) hit' ⟨fun b o hb e => (sb.2 b (fun z => hb (z ▸ .head _))).trans e, rfl, rfl, rfl, Nat.le_succ _⟩
    rcases hty with rfl | rfl
    · exact wpAny_pyNext_ascii_item st hx go
    · exact wpAny_pyNext_wide_item st hx go
  done := fun s Q E st hQ => by
    have hx : x.cps[x.cps.size]? = none := by simp
    have go : ∀ h' : Heap, Heap.ExtBut I s.heap h' → Q none { s with heap := h' } := fun h' ex => hQ _ ⟨fun b o hb e => ex b o (fun z => hb (z ▸ .head _)) e, rfl, rfl, rfl, Nat.le_refl _⟩
    rcases hty with rfl | rfl
    · exact wpAny_pyNext_ascii_end hh st hx go
    · exact wpAny_pyNext_wide_end hh st hx go
end
/-- a set of texts, in the heap -/
def HSet (P : Program) (w : World) (f : Bool) (n : Nat) (a : Addr) (ss : List Str) : HO := .ext fun h => SetAt P w f n h a ss
/-- more tokens were drawn -/
def Hp.bump (H : Hp) (n : Nat) : Hp := ⟨H.fn, n⟩
theorem bump_fn {H : Hp} {n : Nat} {a : Addr} : H.bump n a = H a := rfl
theorem same_bump {H : Hp} {n : Nat} (h : H.clk ≤ n) : Same H (H.bump n) := ⟨fun _ _ q => q, h⟩
section
variable {X : Cx} {pins : List (Addr × Obj)} {σ : St} {H : Hp} {s : Shared}
theorem Inv.bump {n : Nat} (I : Inv X pins σ H s) (h : n ≤ s.toks) : Inv X pins σ (H.bump n) s :=
  ⟨I.ok, I.os, ⟨I.bare.1, h⟩, ⟨I.base.keep, I.base.slot, I.base.free, I.base.there, I.base.tups, I.base.frzs, I.base.tbls⟩, I.loc, I.cell, I.free, I.freeC, I.pin,
    fun a o e => (I.hok a o e).stay (fun _ _ _ q => q) (fun _ q => q) (fun _ _ q => q), I.len⟩
theorem hset_ok {P : Program} {w : World} {H : Hp} {h : Heap} {a : Addr} {ss : List Str} {f : Bool} {n : Nat} (S : SetAt P w f n h a ss) : ObjOk P w H h a (HSet P w f n a ss) :=
  ⟨S, let ⟨_, _, _, Z⟩ := S; ⟨_, Z.at_⟩, fun _ _ S1 k => SetAt.keep S1 k⟩
theorem Inv.kept' {s' : Shared} (I : Inv X pins σ H s) (k : ∀ b u, s.heap.get? b = some u → s'.heap.get? b = some u) (hg : s'.gens = s.gens) (ho : s'.os = s.os) (ht : s.toks ≤ s'.toks) : Inv X pins σ H s' :=
  I.call' (ch := []) ho (Un.kept k) (I.hok.kept k) ⟨by rw [hg]; exact I.bare.1, Nat.le_trans I.bare.2 ht⟩ (fun _ z => nomatch z)
theorem SetAt.nodup {P : Program} {w : World} {h : Heap} {a : Addr} {ss : List Str} {f : Bool} {n : Nat} (S : SetAt P w f n h a ss) : ss.Nodup := let ⟨_, _, _, Z⟩ := S; Z.nd
/-- set(a text) -/
def rSetT (P : Program) (w : World) : List V → Hp → VK → Prop := fun xs H Q => ∃ x : Str, xs = [.str x] ∧ x.length ≤ 4000 ∧ 1 ≤ H.clk ∧
  ∀ p ss n, H p = none → H.clk ≤ n → ss.Nodup → ss.length ≤ x.length → (∀ y, y ∈ ss ↔ ∃ c, c ∈ x.cps.toList ∧ ⟨#[c]⟩ = y) → Q (.ref p) ((upd H p (HSet P w true n p ss)).bump n)
theorem c_setT (hc : X.calm = true) : CallR X (.type "set") (rSetT X.prog X.w) := by
  intro pins s σ H xs us Q I r h
  obtain ⟨x, rfl, hz, h1, q⟩ := h
  obtain ⟨u, rfl, t, rfl⟩ := vals1 r
  have hn : x.cps.size + 1 < scanBound := by
    have : x.cps.size ≤ 4000 := hz
    show _ < 4096
    omega
  refine wpAny_with_toks (Nat.le_refl _) (set_of (T := "str") (n := x.cps.size) true (I.ok.hd hc) hn (fun i => ⟨#[x.cps.getD i 0]⟩) (fun _ => Nat.le_trans h1 I.bare.2)
    (fun h' _ => rfl) PySem.F.sub_str_set PySem.F.sub_str_frozenset (by decide) (fun A' h' K E' kp k => ?_) fun h' tk ss kp S l m htk => ?_)
  · cases ha : x.cps.all (· < 128)
    · exact wpAny_pyIter_wide ha (k _ _ _ _ (fun b hb => .inl (List.mem_singleton.mp hb)) (fun b hb => List.mem_singleton.mp hb) (fun A' hA => sw_text hA _ x t "str_iterator" (.inr rfl)) ⟨_, Heap.get?_push_size _ rfl, rfl, rfl⟩)
    · exact wpAny_pyIter_ascii ha (k _ _ _ _ (fun b hb => .inl (List.mem_singleton.mp hb)) (fun b hb => List.mem_singleton.mp hb) (fun A' hA => sw_text hA _ x t "str_ascii_iterator" (.inl rfl)) ⟨_, Heap.get?_push_size _ rfl, rfl, rfl⟩)
  · have htk : s.toks ≤ tk := htk
    have I1 : Inv X pins σ (upd H s.heap.objs.size (HSet X.prog X.w true tk s.heap.objs.size ss)) { s with heap := h', toks := tk } := I.laid kp (Nat.le_refl _) (hset_ok S) htk
    refine ⟨.ref s.heap.objs.size, _, I1.bump (n := tk) (Nat.le_refl _), rfl, q _ ss tk (I.hok.fresh (Nat.le_refl _)) (Nat.le_trans I.bare.2 htk) S.nodup l fun y => ?_⟩
    rw [m]
    constructor
    · rintro ⟨j, hj, e⟩
      exact ⟨x.cps[j], by simp, by rw [← e]; simp [Array.getD_eq_getD_getElem?, hj]⟩
    · rintro ⟨c, hc, e⟩
      obtain ⟨j, hj, e2⟩ := List.getElem_of_mem hc
      rw [Array.length_toList] at hj
      exact ⟨j, hj, by rw [← e]; rw [Array.getElem_toList] at e2; simp [Array.getD_eq_getD_getElem?, hj, e2]⟩
theorem vals_olds {n : Nat} : ∀ {us : List Value} {ss : List Str}, StrsAre us ss → (∀ v ∈ us, TokB true n v) → Vals (ss.map fun x => V.old x 1 n) us
  | _, _, .nil, _ => .nil
  | _, _, .cons y t r, h => .cons ⟨t, rfl, (h _ (.head _) rfl y t rfl).1, (h _ (.head _) rfl y t rfl).2⟩ (vals_olds r fun v hv => h v (.tail _ hv))
/-- sorted(a set of texts), with tokens or without -/
def rSortedU (P : Program) (w : World) : List V → Hp → VK → Prop := fun xs H Q => ∃ p ss n, xs = [.ref p] ∧ H p = some (HSet P w true n p ss) ∧ ss.length < 64 ∧
  ∀ l ss', H l = none → ss'.Perm ss → sortedS ss' = true → Q (.ref l) (upd H l (.lst (ss'.map fun x => V.old x 1 n)))
def rSortedV (P : Program) (w : World) : List V → Hp → VK → Prop := fun xs H Q => ∃ p ss n, xs = [.ref p] ∧ H p = some (HSet P w true n p ss) ∧ ss.length < 64 ∧
  ∀ l ss', H l = none → ss'.Perm ss → sortedS ss' = true → Q (.ref l) (upd H l (.lst (ss'.map V.str)))
theorem c_sortedU (hc : X.calm = true) : CallR X (.builtin "sorted") (rSortedU X.prog X.w) := by
  intro pins s σ H xs us Q I r h
  obtain ⟨p, ss, n, rfl, hp, h64, q⟩ := h
  obtain ⟨u, rfl, rx⟩ := vals1 r
  cases rx
  have S : SetAt X.prog X.w true n s.heap p ss := (I.hok p _ hp).1
  refine wpAny_with_toks (Nat.le_refl _) (sorted_set (I.ok.hd hc) S h64 fun s' h' out ss' e kp hg hos kp2 he h1 h2 h3 htb htk => ?_)
  have htk : s.toks ≤ s'.toks := htk
  have hlen : ss'.length ≤ sizeLine := by
    rw [h2.length_eq, sizeLine_eq]
    omega
  have I1 : Inv X pins σ H s' := I.kept' kp hg hos htk
  have I2 : Inv X pins σ (upd H s'.heap.objs.size (.lst (ss'.map fun x => V.old x 1 n))) { s' with heap := h' } :=
    I1.laid (t' := s'.toks) kp2 (Nat.le_refl _) ⟨by rw [List.length_map]; exact hlen, out.toList, e, vals_olds h1 htb, by rw [Array.toArray_toList]; exact he⟩
  exact ⟨.ref s'.heap.objs.size, _, I2, rfl, q _ ss' (I1.hok.fresh (Nat.le_refl _)) h2 h3⟩
theorem c_sortedV (hc : X.calm = true) : CallR X (.builtin "sorted") (rSortedV X.prog X.w) := by
  intro pins s σ H xs us Q I r h
  obtain ⟨p, ss, n, rfl, hp, h64, q⟩ := h
  obtain ⟨u, rfl, rx⟩ := vals1 r
  cases rx
  have S : SetAt X.prog X.w true n s.heap p ss := (I.hok p _ hp).1
  refine wpAny_with_toks (Nat.le_refl _) (sorted_set (I.ok.hd hc) S h64 fun s' h' out ss' e kp hg hos kp2 he h1 h2 h3 htb htk => ?_)
  have htk : s.toks ≤ s'.toks := htk
  have hlen : ss'.length ≤ sizeLine := by
    rw [h2.length_eq, sizeLine_eq]
    omega
  have I1 : Inv X pins σ H s' := I.kept' kp hg hos htk
  have I2 : Inv X pins σ (upd H s'.heap.objs.size (.lst (ss'.map V.str))) { s' with heap := h' } :=
    I1.laid (t' := s'.toks) kp2 (Nat.le_refl _) ⟨by rw [List.length_map]; exact hlen, out.toList, e, vals_strs h1, by rw [Array.toArray_toList]; exact he⟩
  exact ⟨.ref s'.heap.objs.size, _, I2, rfl, q _ ss' (I1.hok.fresh (Nat.le_refl _)) h2 h3⟩
end
end L2

namespace L2
open PySem PySem.Spec PyProof.Rows
/-! ## ExtT: letters with their tokens -/
/-- what is known of a value but its token -/
def wk : V → V
  | .old x _ _ => .str x
  | v => v
theorem RelV.wk {v : V} {u : Value} (r : RelV v u) : RelV (wk v) u := by
  cases v with
  | old x a n =>
    obtain ⟨t, e, _⟩ := r
    exact ⟨t, e⟩
  | _ => exact r
section
variable {X : Cx}
def tWk (te : TE) : TE := fun σ H Q => te σ H fun v H' => Q (wk v) H'
theorem qe_wk {e : Expr} {te : TE} (h : QE X e te) : QE X e (tWk te) := ⟨fun pins s σ H Q I q => thn (h.h pins s σ H _ I q) fun _ _ ⟨v, H', I', r, q'⟩ => ⟨L2.wk v, H', I', r.wk, q'⟩⟩
/-- a written text, with its token -/
def tNew (x : Str) : TE := fun _ H Q => ∀ n, H.clk ≤ n → Q (.old x n (n + 1)) (H.bump (n + 1))
theorem qe_new {x : Str} {j pos} : QE X (.Constant (.str x) j pos) (tNew x) := ⟨fun pins s σ H Q I q => Calls.Constant_str ⟨.old x s.toks (s.toks + 1), _, (I.tok (s.toks + 1)).bump (n := s.toks + 1) (Nat.le_refl _), ⟨s.toks, rfl, Nat.le_refl _, Nat.lt_succ_self _⟩, q s.toks I.bare.2⟩⟩
/-- a written text: some token is drawn -/
def tBump (x : Str) : TE := fun _ H Q => ∀ n, H.clk ≤ n → 1 ≤ n → Q (.str x) (H.bump n)
theorem qe_bump {x : Str} {j pos} : QE X (.Constant (.str x) j pos) (tBump x) := ⟨fun pins s σ H Q I q => Calls.Constant_str ⟨.str x, _, (I.tok (s.toks + 1)).bump (n := s.toks + 1) (Nat.le_refl _), ⟨_, rfl⟩, q (s.toks + 1) (Nat.le_succ_of_le I.bare.2) (Nat.le_add_left _ _)⟩⟩
def rFind : V → List V → Hp → VK → Prop := fun x vs H Q => ∃ (p q : List Nat) (c : Nat), x = .str ⟨(p ++ c :: q).toArray⟩ ∧ vs = [.str ⟨#[c]⟩] ∧ c ∉ p ∧ Q (.int p.length) H
theorem mt_find : MtR X "str.find" rFind := by
  intro pins s σ H x vs v us Q I rx rv h
  obtain ⟨p, q, c, rfl, rfl, hp, k⟩ := h
  obtain ⟨t, rfl⟩ := rx
  obtain ⟨u, rfl, t', rfl⟩ := vals1 rv
  refine SC.find ?_
  have e : Txt.find (⟨(p ++ c :: q).toArray⟩ : Str) ⟨#[c]⟩ = (p.length : Int) := by
    unfold Txt.find
    rw [occ_one hp]
  rw [e]
  exact ⟨.int p.length, H, I.tok _, ⟨_, rfl⟩, k⟩
theorem glue_cut (p q : List Nat) (c : Nat) : Builtin.Str.glued ⟨#[]⟩ (Builtin.Str.partsBetween (⟨(p ++ c :: q).toArray⟩ : Str) [p.length] 1) = ⟨(p ++ q).toArray⟩ := by
  unfold Builtin.Str.partsBetween Builtin.Str.glued Builtin.Str.strSub
  have e : (⟨(p ++ c :: q).toArray⟩ : Str).length = p.length + (q.length + 1) := by simp [Str.length]
  simp [e, List.extract_eq_take_drop]
  exact List.take_of_length_le (by omega)
theorem vals3 {x y z : V} {us : List Value} (r : Vals [x, y, z] us) : ∃ a b c, us = [a, b, c] ∧ RelV x a ∧ RelV y b ∧ RelV z c := by
  cases r with
  | cons r1 r2 =>
    cases r2 with
    | cons r3 r4 =>
      cases r4 with
      | cons r5 r6 => cases r6; exact ⟨_, _, _, rfl, r1, r3, r5⟩
/-- word.replace(letter, "", 1) -/
def rCut : V → List V → Hp → VK → Prop := fun x vs H Q => ∃ (p q : List Nat) (c a m n k : Nat), x = .str ⟨(p ++ c :: q).toArray⟩ ∧ vs = [.old ⟨#[c]⟩ a m, .old ⟨#[]⟩ n k, .int 1] ∧ 1 ≤ a ∧ m ≤ n ∧ 1 ≤ n ∧ c ∉ p ∧ (p ++ c :: q).length ≤ 1000 ∧ Q (.str ⟨(p ++ q).toArray⟩) H
theorem mt_cut : MtR X "str.replace" rCut := by
  intro pins s σ H x vs v us Q I rx rv h
  obtain ⟨p, q, c, a, m, n, k, rfl, rfl, ha, hmn, hn, hp, hz, kk⟩ := h
  obtain ⟨t, rfl⟩ := rx
  obtain ⟨v1, v2, v3, rfl, ⟨u, rfl, hu1, hu2⟩, ⟨z, rfl, hz1, hz2⟩, ⟨ti, rfl⟩⟩ := vals3 rv
  have hlen : (⟨(p ++ c :: q).toArray⟩ : Str).length = (p ++ c :: q).length := by simp [Str.length]
  have hu0 : u ≠ 0 := Nat.ne_of_gt (Nat.lt_of_lt_of_le Nat.zero_lt_one (Nat.le_trans ha hu1))
  have hz0 : z ≠ 0 := Nat.ne_of_gt (Nat.lt_of_lt_of_le Nat.zero_lt_one (Nat.le_trans hn hz1))
  have huz : u ≠ z := Nat.ne_of_lt (Nat.lt_of_lt_of_le hu2 (Nat.le_trans hmn hz1))
  have g : Gives (Builtin.«str.replace» ⟨[.str ⟨(p ++ c :: q).toArray⟩ t, .str ⟨#[c]⟩ u, .str ⟨#[]⟩ z, .int 1 ti], []⟩) (.str ⟨(p ++ q).toArray⟩) := by
    show Gives (if ((Builtin.Str.occurrences (⟨(p ++ c :: q).toArray⟩ : Str) ⟨#[c]⟩ 0 (⟨(p ++ c :: q).toArray⟩ : Str).length 1).isEmpty || ((⟨#[c]⟩ : Str).length == 0 && (⟨#[]⟩ : Str).length == 0)) = true then (do rule "str.replace.nothing"; ret (.str ⟨(p ++ c :: q).toArray⟩ t)) else
          (do let same ← isSame (.str ⟨#[c]⟩ u) (.str ⟨#[]⟩ z)
              if same = true then (do rule "str.replace.old-is-new"; ret (.str ⟨(p ++ c :: q).toArray⟩ t)) else
              if Builtin.Str.tooLong ((⟨(p ++ c :: q).toArray⟩ : Str).length + (Builtin.Str.occurrences (⟨(p ++ c :: q).toArray⟩ : Str) ⟨#[c]⟩ 0 (⟨(p ++ c :: q).toArray⟩ : Str).length 1).length * (⟨#[]⟩ : Str).length) = true then unsupported "str.replace:memory" else
              retStr (Builtin.Str.glued ⟨#[]⟩ (Builtin.Str.partsBetween (⟨(p ++ c :: q).toArray⟩ : Str) (Builtin.Str.occurrences (⟨(p ++ c :: q).toArray⟩ : Str) ⟨#[c]⟩ 0 (⟨(p ++ c :: q).toArray⟩ : Str).length 1) (⟨#[c]⟩ : Str).length)))) _
    rw [occ_one hp, isSame_str_other _ _ u z (by simp [hu0, hz0]) (by simp [huz]) (by rfl)]
    have e1 : (([p.length] : List Nat).isEmpty || ((⟨#[c]⟩ : Str).length == 0 && (⟨#[]⟩ : Str).length == 0)) = false := rfl
    rw [e1]
    have e2 : Builtin.Str.tooLong ((⟨(p ++ c :: q).toArray⟩ : Str).length + ([p.length] : List Nat).length * (⟨#[]⟩ : Str).length) = false := by
      rw [hlen]
      unfold Builtin.Str.tooLong
      have : (⟨#[]⟩ : Str).length = 0 := rfl
      rw [this, Nat.mul_zero, Nat.add_zero, sizeLine_eq]
      exact decide_eq_false (by omega)
    have e3 : (⟨#[c]⟩ : Str).length = 1 := rfl
    rw [e3, glue_cut]
    refine .of_eq ?_
    show (if Builtin.Str.tooLong ((⟨(p ++ c :: q).toArray⟩ : Str).length + ([p.length] : List Nat).length * (⟨#[]⟩ : Str).length) = true then unsupported "str.replace:memory" else retStr ⟨(p ++ q).toArray⟩) = _
    rw [e2]
    rfl
  have hz' : (⟨(p ++ q).toArray⟩ : Str).length ≤ sizeLine := by
    have : (p ++ q).length ≤ 1000 := by rw [List.length_append] at hz ⊢; rw [List.length_cons] at hz; omega
    simp only [Str.length, List.size_toArray]
    rw [sizeLine_eq]
    omega
  exact call_gives F.slot_str_replace (typeIs_str _ _ _) F.entry_str_replace (F.args_str_replace_4 _ _ _ _) g ⟨hz', .str ⟨(p ++ q).toArray⟩, H, I.tok _, ⟨_, rfl⟩, kk⟩
/-- a text's letters, each with its token -/
def ItsO (x : Str) : It := ⟨fun i H => i < x.length ∧ 1 ≤ H.clk, fun i H v H' => ∃ n c, H.clk ≤ n ∧ x.cps[i]? = some c ∧ v = .old ⟨#[c]⟩ 1 n ∧ H' = H.bump n, fun i _ => x.length ≤ i⟩
theorem turn_strO {P : Program} {w : World} {K : PySem.W.Frag} {tg : Expr} (it : Addr) (x : Str) (t : Tok) : Turn P w K tg (ItsO x) [it] it (fun i h => i ≤ x.length ∧ h.IsStrIter it (strIterType x) x t i) where
  mem := by simp
  obj := (turn_str (P := P) (w := w) (K := K) (tg := tg) it x t).obj
  keep := (turn_str (P := P) (w := w) (K := K) (tg := tg) it x t).keep
  item := by
    intro X hP hw hK hc i pins s σ H E I hf st hg
    subst hP hw hK
    obtain ⟨f0, f1, f2, f3, f4, f5⟩ := hf it (by simp)
    have hg' : i < x.cps.size := hg.1
    have h1 : 1 ≤ s.toks := Nat.le_trans hg.2 I.bare.2
    have fin : ∀ (h' : Heap), h'.IsStrIter it (strIterType x) x t (i + 1) → Heap.SameBut it s.heap h' → ∃ u, some (Value.str ⟨#[x.cps[i]]⟩ s.toks) = some u ∧
        wpAny (model X.prog X.w) X.A (letOwnedTupleGo tg (.ref it) u) (fun _ s2 => ∃ y H', Inv X pins σ H' s2 ∧ RelV y u ∧ (ItsO x).yld i H y H' ∧ ((i + 1) ≤ x.length ∧ s2.heap.IsStrIter it (strIterType x) x t (i + 1)) ∧ ∀ b ∈ [it], H' b = none) E { s with heap := h', toks := s.toks + 1 } := fun h' st' sb => by
      have I1 : Inv X pins σ H { s with heap := h', toks := s.toks + 1 } := I.turned (fun b o hb e => (sb.2 b hb).trans e) f0 f1 f3 f4 f5
      refine ⟨_, rfl, ?_⟩
      have z : wpAny (model X.prog X.w) X.A (pure ()) (fun _ s2 => ∃ y H', Inv X pins σ H' s2 ∧ RelV y (Value.str ⟨#[x.cps[i]]⟩ s.toks) ∧ (ItsO x).yld i H y H' ∧ ((i + 1) ≤ x.length ∧ s2.heap.IsStrIter it (strIterType x) x t (i + 1)) ∧ ∀ b ∈ [it], H' b = none) E { s with heap := h', toks := s.toks + 1 } :=
        wpAny_pure ⟨.old ⟨#[x.cps[i]]⟩ 1 (s.toks + 1), H.bump (s.toks + 1), I1.bump (Nat.le_refl _), ⟨s.toks, rfl, h1, Nat.lt_succ_self _⟩, ⟨s.toks + 1, _, Nat.le_succ_of_le I.bare.2, by simp [hg'], rfl, rfl⟩, ⟨hg', st'⟩, fun b hb => (hf b hb).1⟩
      unfold letOwnedTupleGo
      cases tg <;> exact z
    have st2 := st.2
    cases ha : x.cps.all (· < 128)
    · have e : strIterType x = "str_iterator" := by simp [strIterType, ha]
      rw [e] at st2 fin
      rw [e]
      exact wpAny_pyNext_wide_item st2 (c := x.cps[i]) (by simp [hg']) fun h' st' sb => fin h' st' sb
    · have e : strIterType x = "str_ascii_iterator" := by simp [strIterType, ha]
      rw [e] at st2 fin
      rw [e]
      exact wpAny_pyNext_ascii_item st2 (c := x.cps[i]) (by simp [hg']) fun h' st' sb => fin h' st' sb
  done := fun X hP hw hK hc i pins s σ H E I hf st hg => (turn_str (P := P) (w := w) (K := K) (tg := tg) it x t).done X hP hw hK hc i pins s σ H E I hf st hg
  self := (turn_str (P := P) (w := w) (K := K) (tg := tg) it x t).self
def iStrO (te : TE) : TI := fun σ H R => te σ H fun v H1 => ∃ x, v = .str x ∧ R (ItsO x) H1
theorem qi_strO {tg e : Expr} {te : TE} (he : QE X e te) : QI X tg e (iStrO te) := ⟨by
  intro pins s σ H R I h
  refine thn (he.h pins s σ H _ I h) fun v s1 ⟨y, H1, I1, r1, q1⟩ => ?_
  obtain ⟨x, e, q⟩ := q1
  subst e
  obtain ⟨t, rfl⟩ := r1
  refine wpAny_pyIter_strU ?_
  refine ⟨s1.heap.objs.size, [s1.heap.objs.size], _, _, H1, rfl, I1.kept (t' := s1.toks) fun b o e => Heap.get?_push_of_some _ e, turn_strO _ x t, ⟨Nat.zero_le _, _, Heap.get?_push_size _ rfl, rfl, rfl⟩, fun b hb => ?_, q⟩
  have e : b = s1.heap.objs.size := by simpa using hb
  subst e
  exact I1.fpOk (Nat.le_refl _) (I1.hok.fresh (Nat.le_refl _))⟩
theorem for_strO {x : Str} {g : TG} {tb : TS} {D : Ends} {σ : St} {H : Hp} (Pv : Nat → St → Hp → Prop) (h0 : Pv 0 σ H) (h1 : ∀ i σ H, Pv i σ H → 1 ≤ H.clk)
    (hs : ∀ i c n σ H, x.cps[i]? = some c → H.clk ≤ n → Pv i σ H → g (.old ⟨#[c]⟩ 1 n) σ (H.bump n) fun σ2 H2 => tb { D with nx := Pv (i + 1), ct := Pv (i + 1), bk := D.nx } σ2 H2) (hd : ∀ σ H, Pv x.length σ H → D.nx σ H) :
    ∃ W : Nat → Nat → St → Hp → Prop, (∃ m, W 0 m σ H) ∧ ∀ i m σ H, W i m σ H →
      ((ItsO x).stop i H ∧ D.nx σ H) ∨ ((ItsO x).go i H ∧ ∃ N : St → Hp → Prop, (∀ σ' H', N σ' H' → ∃ m', m' < m ∧ W (i + 1) m' σ' H') ∧ ∀ y H', (ItsO x).yld i H y H' → g y σ H' fun σ2 H2 => tb { D with nx := N, ct := N, bk := D.nx } σ2 H2) := by
  refine ⟨fun i m σ H => m = x.length - i ∧ i ≤ x.length ∧ Pv i σ H, ⟨x.length, by simp, Nat.zero_le _, h0⟩, ?_⟩
  rintro i m σ H ⟨rfl, hi, p⟩
  by_cases hlt : i < x.length
  · refine .inr ⟨⟨hlt, h1 i σ H p⟩, Pv (i + 1), fun σ' H' p' => ⟨x.length - (i + 1), by omega, rfl, hlt, p'⟩, fun v H' y => ?_⟩
    obtain ⟨n, c, hn, hc, ev, e⟩ := y
    subst e ev
    exact hs i c n σ _ hc hn p
  · have e : i = x.length := by omega
    subst e
    exact .inl ⟨Nat.le_refl _, hd σ H p⟩
/-- "".join(letters) -/
theorem strs_olds {a n : Nat} : ∀ {ys : List Str} {us : List Value}, Vals (ys.map fun x => V.old x a n) us → Vals (ys.map V.str) us
  | [], _, .nil => .nil
  | _ :: _, _, .cons r t => .cons (RelV.wk r) (strs_olds t)
def rJoinO : V → List V → Hp → VK → Prop := fun x vs H Q => ∃ (sep : Str) (p : Addr) (ys : List Str) (a n : Nat), x = .str sep ∧ vs = [.ref p] ∧ H p = some (.lst (ys.map fun x => V.old x a n)) ∧ (ys.map (·.length)).sum + ys.length * sep.length ≤ 16777216 ∧ Q (.str (Txt.join sep ys)) H
theorem mt_joinO : MtR X "str.join" rJoinO := by
  intro pins s σ H x vs v us Q I rx rv h
  obtain ⟨sep, p, ys, a, n, rfl, rfl, hq, hz, q⟩ := h
  obtain ⟨t, rfl⟩ := rx
  obtain ⟨u, rfl, ru⟩ := rv.one
  cases ru
  obtain ⟨its, r, pl, _⟩ := I.list (SqL.of hq)
  exact wpAny_with_toks (Nat.le_refl _) (join_list pl.isList (by simpa using strsAre_of (strs_olds r)) hz fun t' k htk => ⟨.str (Txt.join sep ys), H, I.tok k htk, ⟨_, rfl⟩, q⟩)
/-- what is known of the tokens of a list's letters is forgotten -/
def tFgt (te : TE) : TE := fun σ H Q => te σ H fun v H' => ∃ (p : Addr) (ys : List Str) (a n : Nat), v = .ref p ∧ H' p = some (.lst (ys.map fun x => V.old x a n)) ∧ Q v (upd H' p (.lst (ys.map V.str)))
theorem qe_fgt {e : Expr} {te : TE} (h : QE X e te) : QE X e (tFgt te) := ⟨fun pins s σ H Q I q => thn (h.h pins s σ H _ I q) fun _ s1 ⟨v, H', I', r, q'⟩ => by
  obtain ⟨p, ys, a, n, rfl, hp, q2⟩ := q'
  obtain ⟨hz, its, k, rv, e⟩ := I'.hok p _ hp
  refine ⟨.ref p, _, ?_, r, q2⟩
  have I2 := I'.write (x := p) (e := p) (h' := s1.heap) (t' := s1.toks) (o := .lst (ys.map V.str)) (by rw [hp]; trivial) (.inl rfl) (fun _ _ _ q => q) ⟨_, e⟩ ⟨by rw [List.length_map] at hz ⊢; exact hz, its, k, strs_olds rv, e⟩
  exact I2⟩
end
end L2

namespace HW
open PySem L2 PyProof.Rows

/-! ## HW: texts by their codes; grounds and words; what the law's own helpers draw -/
/-- a text by its codes -/
abbrev S (l : List Nat) : Str := ⟨l.toArray⟩
theorem S_cps (l : List Nat) : (S l).cps.toList = l := by simp
theorem S_len (l : List Nat) : (S l).length = l.length := by simp [Str.length]
theorem S_nil : (S []).length = 0 := rfl
theorem filter_yes {α : Type} (l : List α) : (l.filter fun _ => true) = l := List.filter_eq_self.mpr fun _ _ => rfl
theorem S_inj {a b : List Nat} (h : S a = S b) : a = b := by
  have := congrArg (fun x : Str => x.cps.toList) h
  simpa using this
theorem S_app (a b : List Nat) : S a ++ S b = S (a ++ b) := by
  show (⟨a.toArray ++ b.toArray⟩ : Str) = _
  simp
theorem S_of (x : Str) : x = S x.cps.toList := by cases x; simp
/-- one sign -/
abbrev chV (c : Nat) : V := .str (S [c])
/-- a text as a value -/
abbrev tx (l : List Nat) : V := .str (S l)
theorem signsV_S (l : List Nat) : signsV (S l) = l.map chV := by
  unfold signsV
  rw [S_cps]
theorem join_fold : ∀ (r : List (List Nat)) (acc : List Nat), ((r.map S).foldl (fun (a : Array Nat) (p : Str) => a ++ (S []).cps ++ p.cps) acc.toArray) = (acc ++ r.flatten).toArray
  | [], acc => by simp
  | x :: r, acc => by
    have e : acc.toArray ++ (S []).cps ++ (S x).cps = (acc ++ x).toArray := by simp
    rw [List.map_cons, List.foldl_cons, e, join_fold r (acc ++ x), List.flatten_cons, List.append_assoc]
theorem join_S (ls : List (List Nat)) : Txt.join (S []) (ls.map S) = S ls.flatten := by
  cases ls with
  | nil => rfl
  | cons x r =>
    show (⟨((List.map S (x :: r)).drop 1).foldl (fun a p => a ++ (S []).cps ++ p.cps) ((List.map S (x :: r)).headD Str.empty).cps⟩ : Str) = _
    have e : (((x :: r).map S).drop 1) = r.map S := rfl
    have e2 : (((x :: r).map S).headD Str.empty).cps = x.toArray := rfl
    rw [e, e2, join_fold r x, List.flatten_cons]
theorem flat_one (l : List Nat) : (l.map fun c => [c]).flatten = l := by
  induction l with
  | nil => rfl
  | cons x l ih => rw [List.map_cons, List.flatten_cons, ih]; rfl
theorem join_signs (l : List Nat) : Txt.join (S []) (l.map fun c => S [c]) = S l := by
  have e : (l.map fun c => S [c]) = (l.map fun c => [c]).map S := by rw [List.map_map]; rfl
  rw [e, join_S, flat_one]
theorem sum_signs (l : List Nat) : ((l.map fun c => S [c]).map (·.length)).sum = l.length := by
  induction l with
  | nil => rfl
  | cons x l ih =>
    rw [List.map_cons, List.map_cons, List.sum_cons, ih, List.length_cons, S_len]
    simp
    omega

/-! ### the alphabet, and letters drawn from it -/
def abc : List Nat := List.range' 97 26
theorem abc_nodup : abc.Nodup := by decide
theorem abc_az : ∀ c ∈ abc, 97 ≤ c ∧ c ≤ 122 := by decide
theorem pop_perm {α : Type} : ∀ {l : List α} {k : Nat} {y : α}, l[k]? = some y → (l.eraseIdx k ++ [y]).Perm l
  | [], _, _, h => by cases h
  | x :: l, 0, y, h => by
    have : x = y := by simpa using h
    subst this
    exact (List.perm_append_singleton x l)
  | x :: l, k + 1, y, h => by
    have h' : l[k]? = some y := by simpa using h
    rw [List.eraseIdx_cons_succ, List.cons_append]
    exact (pop_perm h').cons x
theorem risingS_codes : ∀ (l : List Nat) (p : Nat), risingS (S [p]) (l.map fun c => S [c]) = true → (∀ c ∈ l, p ≤ c) ∧ l.Pairwise (· ≤ ·)
  | [], _, _ => ⟨(fun _ h => by cases h), List.Pairwise.nil⟩
  | x :: l, p, h => by
    have h' : (!Spec.ltCps (S [x]).cps.toList (S [p]).cps.toList && risingS (S [x]) (l.map fun c => S [c])) = true := h
    rw [Bool.and_eq_true] at h'
    obtain ⟨i1, i2⟩ := risingS_codes l x h'.2
    have hpx : p ≤ x := by
      have q := h'.1
      rw [S_cps, S_cps] at q
      simp [Spec.ltCps] at q
      omega
    refine ⟨fun c hc => ?_, List.pairwise_cons.mpr ⟨i1, i2⟩⟩
    rcases List.mem_cons.mp hc with z | z
    · omega
    · have := i1 c z
      omega
theorem sortedS_codes : ∀ (l : List Nat), sortedS (l.map fun c => S [c]) = true → l.Pairwise (· ≤ ·)
  | [], _ => List.Pairwise.nil
  | x :: l, h => by
    obtain ⟨i1, i2⟩ := risingS_codes l x h
    exact List.pairwise_cons.mpr ⟨i1, i2⟩
theorem strict_of {l : List Nat} (h : l.Pairwise (· ≤ ·)) (n : l.Nodup) : l.Pairwise (· < ·) := by
  induction l with
  | nil => exact List.Pairwise.nil
  | cons x l ih =>
    obtain ⟨h1, h2⟩ := List.pairwise_cons.mp h
    obtain ⟨n1, n2⟩ := List.nodup_cons.mp n
    refine List.pairwise_cons.mpr ⟨fun c hc => ?_, ih h2 n2⟩
    have a := h1 c hc
    have b : x ≠ c := fun e => n1 (e ▸ hc)
    omega
theorem sorted_codes {fd : List Nat} {ss' : List Str} (hp : ss'.Perm (fd.map fun c => S [c])) (hs : sortedS ss' = true) (nd : fd.Nodup) : ∃ L : List Nat, ss' = (L.map fun c => S [c]) ∧ L.Perm fd ∧ L.Pairwise (· < ·) := by
  have hm : ∀ x ∈ ss', x = S [x.cps.toList.headD 0] := fun x hx => by
    obtain ⟨c, _, e⟩ := List.mem_map.mp (hp.mem_iff.mp hx)
    rw [← e]
    rfl
  have e : ss' = ((ss'.map fun x => x.cps.toList.headD 0).map fun c => S [c]) := by
    rw [List.map_map]
    have q : ss'.map (fun x => x) = ss'.map ((fun c => S [c]) ∘ fun x => x.cps.toList.headD 0) := List.map_congr_left hm
    rw [List.map_id'] at q
    exact q
  have hp2 : (ss'.map fun x => x.cps.toList.headD 0).Perm fd := by
    have q := hp.map fun x : Str => x.cps.toList.headD 0
    rw [List.map_map] at q
    have : (fd.map ((fun x : Str => x.cps.toList.headD 0) ∘ fun c => S [c])) = fd := by
      have : ((fun x : Str => x.cps.toList.headD 0) ∘ fun c => S [c]) = id := by funext c; rfl
      rw [this, List.map_id]
    rw [this] at q
    exact q
  refine ⟨_, e, hp2, ?_⟩
  rw [e] at hs
  exact strict_of (sortedS_codes _ hs) (hp2.nodup_iff.mpr nd)

/-! ### grounds -/
structure Letters (L : List Nat) : Prop where
  l1 : 1 ≤ L.length
  l5 : L.length ≤ 5
  up : L.Pairwise (· < ·)
  az : ∀ c ∈ L, 97 ≤ c ∧ c ≤ 122
structure Ground (L : List Nat) (T : List (List Nat)) : Prop where
  le : Letters L
  ti : ∀ q ∈ T, ∃ a b, q = [a, b] ∧ a < b ∧ a ∈ L ∧ b ∈ L
  tu : T.Pairwise (· < ·)
  tl : T.length ≤ 25
/-- a ground stands at g -/
def GAt (H : Hp) (g : Addr) (L : List Nat) (T : List (List Nat)) : Prop := ∃ a, H g = some (.tup [tx L, .ref a]) ∧ H a = some (.tup (T.map tx)) ∧ 1 ≤ H.clk
theorem GAt.same {H H' : Hp} {g : Addr} {L : List Nat} {T : List (List Nat)} (h : GAt H g L T) (e : Same H H') : GAt H' g L T := by
  obtain ⟨a, h1, h2, h3⟩ := h
  exact ⟨a, e _ _ h1, e _ _ h2, Nat.le_trans h3 e.ck⟩
theorem GAt.ck {H : Hp} {g : Addr} {L : List Nat} {T : List (List Nat)} (h : GAt H g L T) : 1 ≤ H.clk := let ⟨_, _, _, h3⟩ := h; h3
/-- what is tied -/
def tiedB (T : List (List Nat)) (a b : Nat) : Bool := decide (a = b) || decide ([min a b, max a b] ∈ T)
theorem tied_two {L : List Nat} {T : List (List Nat)} (G : Ground L T) (a b : Nat) : (decide (a = b) || (decide ([a, b] ∈ T) || decide ([b, a] ∈ T))) = tiedB T a b := by
  unfold tiedB
  by_cases e : a = b
  · rw [decide_eq_true e]; rfl
  · rw [decide_eq_false e, Bool.false_or, Bool.false_or]
    have no : ∀ x y, y < x → [x, y] ∉ T := fun x y h m => by
      obtain ⟨a', b', e1, h1, _⟩ := G.ti _ m
      cases e1
      omega
    rcases Nat.lt_or_gt_of_ne e with h | h
    · have e1 : min a b = a := by omega
      have e2 : max a b = b := by omega
      rw [e1, e2, decide_eq_false (no b a h), Bool.or_false]
    · have e1 : min a b = b := by omega
      have e2 : max a b = a := by omega
      rw [e1, e2, decide_eq_false (no a b h), Bool.false_or]

/-! ### membership of texts in tuples of texts -/
theorem inV_tx (q : List Nat) : ∀ T : List (List Nat), inV (tx q) (T.map tx) = decide (q ∈ T)
  | [] => rfl
  | t :: T => by
    show (eqV (tx t) (tx q) || inV (tx q) (T.map tx)) = _
    rw [inV_tx q T]
    have e : eqV (tx t) (tx q) = decide (q = t) := by
      show (S t == S q) = _
      by_cases h : q = t
      · subst h; simp
      · rw [decide_eq_false h]
        exact beq_eq_false_iff_ne.mpr fun z => h (S_inj z).symm
    rw [e]
    by_cases h : q = t
    · subst h; simp
    · by_cases h2 : q ∈ T
      · simp [h, h2]
      · simp [h, h2]
theorem flat_tx (T : List (List Nat)) : (T.map tx).all flatV = true := by
  rw [List.all_eq_true]
  intro x hx
  obtain ⟨q, _, e⟩ := List.mem_map.mp hx
  rw [← e]
  rfl

/-! ### what is told -/
def parts (L : List Nat) (T : List (List Nat)) : List (List Nat) := (L.map fun c => [c]) ++ T
def only (w l : List Nat) : List Nat := w.filter fun c => decide (c ∈ l)
def toldD (L : List Nat) (T : List (List Nat)) (w : List Nat) : PyData := .tuple ((parts L T).map fun q => .tuple [.str (S q), .str (S (only w q))])
/-! ### cuts -/
theorem slice_from (l : List Nat) (k : Nat) : Txt.slice (S l) (some (k : Int)) none = S (l.drop k) := by
  by_cases h : k ≤ l.length
  · have hl : (S l).length = l.length := S_len l
    rw [slice_from_eq (x := S l) (i := (k : Int)) (b := ((S l).length : Int)) (by omega) (by omega) rfl, S_cps]
    have e : (((S l).length : Int) - (k : Int)).toNat = l.length - k := by omega
    have e2 : ((k : Int)).toNat = k := by omega
    rw [e, e2, List.take_of_length_le (by rw [List.length_drop]; omega)]
  · rw [slice_beyond (by rw [S_len]; omega), List.drop_eq_nil_of_le (by omega)]
    rfl
theorem small {n : Nat} (h : n ≤ 100000) : n ≤ sizeLine := by
  have : (100000 : Nat) ≤ sizeLine := by rw [sizeLine_eq]; decide
  omega
end HW
namespace HW
open PySem L2 PyProof.Rows
theorem slice_to (l : List Nat) (k : Nat) : Txt.slice (S l) none (some (k : Int)) = S (l.take k) := by
  have hl : (S l).length = l.length := S_len l
  by_cases h : k ≤ l.length
  · have e := beq_iff_eq.mp (slice_closes_toL (x := S l) (j := (k : Int)) (by omega) (by omega))
    rw [e, S_cps]
    have e2 : ((k : Int) - 0).toNat = k := by omega
    rw [e2]
    rfl
  · rw [slice_to_beyond (by omega), beq_iff_eq.mp (slice_closes_toL (x := S l) (j := ((S l).length : Int)) (by omega) (by omega)), S_cps]
    have e2 : (((S l).length : Int) - 0).toNat = l.length := by omega
    rw [e2, List.take_of_length_le (by omega : l.length ≤ k)]
    show S (l.take l.length) = S l
    rw [List.take_length]
/-- c * n, one sign n times -/
theorem rep_one (c n : Nat) : (⟨(List.replicate n (S [c]).cps).foldl (· ++ ·) #[]⟩ : Str) = S (List.replicate n c) := by
  have go : ∀ (n : Nat) (acc : List Nat), (List.replicate n (S [c]).cps).foldl (· ++ ·) acc.toArray = (acc ++ List.replicate n c).toArray := by
    intro n
    induction n with
    | zero => intro acc; simp
    | succ n ih =>
      intro acc
      rw [List.replicate_succ, List.foldl_cons]
      have e : acc.toArray ++ (S [c]).cps = (acc ++ [c]).toArray := by simp
      rw [e, ih (acc ++ [c]), List.replicate_succ, List.append_assoc]
      rfl
  have := go n []
  rw [List.nil_append] at this
  show (⟨_⟩ : Str) = ⟨_⟩
  rw [← this]
end HW
namespace HW
theorem nodup_le {α : Type} [DecidableEq α] : ∀ {l m : List α}, l.Nodup → (∀ x ∈ l, x ∈ m) → l.length ≤ m.length
  | [], m, _, _ => Nat.zero_le _
  | x :: l, m, nd, h => by
    obtain ⟨n1, n2⟩ := List.nodup_cons.mp nd
    have hx := h x List.mem_cons_self
    have ih := nodup_le (l := l) (m := m.erase x) n2 fun y hy => by
      have hne : y ≠ x := fun e => n1 (e ▸ hy)
      exact (List.mem_erase_of_ne hne).mpr (h y (List.mem_cons_of_mem _ hy))
    rw [List.length_erase_of_mem hx] at ih
    have : 0 < m.length := List.length_pos_of_mem hx
    rw [List.length_cons]
    omega
end HW
namespace HW
open PySem L2 PyProof.Rows
theorem cutV_sub {xs : List V} {lo hi : Option Int} {x : V} (h : x ∈ cutV xs lo hi) : x ∈ xs := by
  unfold cutV at h
  exact List.mem_of_mem_drop (List.mem_of_mem_take h)
end HW
namespace HW
open L2
theorem atI_zero {α : Type} (x : α) (xs : List α) : atI (x :: xs) 0 = some x := atI_nat (j := 0) rfl
end HW

namespace TR
/-! ## TRACE: words up to changes, by what is left of each tied pair -/
/-- what is left of a word by two letters -/
def pr (a b : Nat) (w : List Nat) : List Nat := w.filter fun c => c == a || c == b
/-- the same heap -/
def Heq (td : Nat → Nat → Bool) (u v : List Nat) : Prop := ∀ a b, td a b = true → pr a b u = pr a b v
/-- tied is told of each letter with itself, and both ways -/
structure Td (td : Nat → Nat → Bool) : Prop where
  r : ∀ a, td a a = true
  s : ∀ a b, td a b = td b a
section
variable {td : Nat → Nat → Bool} {u v w x y : List Nat} {a b c : Nat}
theorem pr_app (a b : Nat) (u v : List Nat) : pr a b (u ++ v) = pr a b u ++ pr a b v := List.filter_append ..
theorem pr_rev (a b : Nat) (u : List Nat) : pr a b u.reverse = (pr a b u).reverse := List.filter_reverse ..
theorem pr_comm (a b : Nat) (u : List Nat) : pr a b u = pr b a u := by
  unfold pr
  congr 1
  funext c
  rw [Bool.or_comm]
theorem pr_in {a b c : Nat} (h : c = a ∨ c = b) (u : List Nat) : pr a b (c :: u) = c :: pr a b u := by
  unfold pr
  rw [List.filter_cons]
  have : (c == a || c == b) = true := by simp; exact h
  rw [if_pos this]
theorem pr_out {a b c : Nat} (h1 : c ≠ a) (h2 : c ≠ b) (u : List Nat) : pr a b (c :: u) = pr a b u := by
  unfold pr
  rw [List.filter_cons]
  have : ¬ (c == a || c == b) = true := by simp; exact ⟨h1, h2⟩
  rw [if_neg this]
theorem pr_mem {a b c : Nat} {u : List Nat} : c ∈ pr a b u ↔ c ∈ u ∧ (c = a ∨ c = b) := by
  unfold pr
  rw [List.mem_filter]
  simp
theorem pr_nil_of {a b : Nat} {u : List Nat} (h : ∀ c ∈ u, c ≠ a ∧ c ≠ b) : pr a b u = [] := by
  unfold pr
  rw [List.filter_eq_nil_iff]
  intro c hc
  have := h c hc
  simp [this.1, this.2]
theorem Heq.refl (td : Nat → Nat → Bool) (u : List Nat) : Heq td u u := fun _ _ _ => rfl
theorem Heq.symm (h : Heq td u v) : Heq td v u := fun a b t => (h a b t).symm
theorem Heq.trans (h : Heq td u v) (k : Heq td v w) : Heq td u w := fun a b t => (h a b t).trans (k a b t)
theorem Heq.app (h : Heq td u v) (k : Heq td x y) : Heq td (u ++ x) (v ++ y) := fun a b t => by rw [pr_app, pr_app, h a b t, k a b t]
theorem Heq.cons (a : Nat) (h : Heq td u v) : Heq td (a :: u) (a :: v) := Heq.app (Heq.refl td [a]) h
theorem Heq.left (h : Heq td (x ++ u) (x ++ v)) : Heq td u v := fun a b t => by
  have := h a b t
  rw [pr_app, pr_app] at this
  exact List.append_cancel_left this
theorem Heq.right (h : Heq td (u ++ x) (v ++ x)) : Heq td u v := fun a b t => by
  have := h a b t
  rw [pr_app, pr_app] at this
  exact List.append_cancel_right this
theorem Heq.tail (h : Heq td (a :: u) (a :: v)) : Heq td u v := Heq.left (x := [a]) h
theorem Heq.rev (h : Heq td u v) : Heq td u.reverse v.reverse := fun a b t => by rw [pr_rev, pr_rev, h a b t]
theorem Heq.rev_iff : Heq td u.reverse v.reverse ↔ Heq td u v := ⟨fun h => by have := h.rev; rwa [List.reverse_reverse, List.reverse_reverse] at this, Heq.rev⟩
theorem count_pr (a : Nat) (u : List Nat) : (pr a a u).length = u.count a := by
  unfold pr
  rw [List.count_eq_length_filter]
  congr 2
  funext c
  simp
theorem Heq.perm (T : Td td) (h : Heq td u v) : u.Perm v := List.perm_iff_count.mpr fun a => by
  rw [← count_pr, ← count_pr, h a a (T.r a)]
theorem Heq.len (T : Td td) (h : Heq td u v) : u.length = v.length := (h.perm T).length_eq
theorem Heq.mem (T : Td td) (h : Heq td u v) : a ∈ u ↔ a ∈ v := (h.perm T).mem_iff
theorem Heq.nil (T : Td td) (h : Heq td [] v) : v = [] := by
  have := h.len T
  exact List.length_eq_zero_iff.mp this.symm
/-- two that are not tied change places -/
theorem swap2 (T : Td td) (h : td a b = false) : Heq td [a, b] [b, a] := fun c d t => by
  have key : (a = c ∨ a = d) → (b = c ∨ b = d) → a = b := fun h1 h2 => by
    rcases h1 with rfl | rfl
    · rcases h2 with rfl | rfl
      · rfl
      · rw [h] at t; cases t
    · rcases h2 with rfl | rfl
      · rw [T.s, h] at t; cases t
      · rfl
  by_cases h1 : a = c ∨ a = d
  · by_cases h2 : b = c ∨ b = d
    · rw [key h1 h2]
    · rw [pr_in h1, pr_out (fun z => h2 (.inl z)) (fun z => h2 (.inr z)), pr_out (fun z => h2 (.inl z)) (fun z => h2 (.inr z)), pr_in h1]
  · rw [pr_out (fun z => h1 (.inl z)) (fun z => h1 (.inr z))]
    by_cases h2 : b = c ∨ b = d
    · rw [pr_in h2, pr_in h2, pr_out (fun z => h1 (.inl z)) (fun z => h1 (.inr z))]
    · rw [pr_out (fun z => h2 (.inl z)) (fun z => h2 (.inr z)), pr_out (fun z => h2 (.inl z)) (fun z => h2 (.inr z)), pr_out (fun z => h1 (.inl z)) (fun z => h1 (.inr z))]
theorem swap (T : Td td) (h : td a b = false) (u v : List Nat) : Heq td (u ++ a :: b :: v) (u ++ b :: a :: v) :=
  (Heq.refl td u).app ((swap2 T h).app (Heq.refl td v) : Heq td ([a, b] ++ v) ([b, a] ++ v))
/-- a letter goes ahead of what it is not tied to -/
theorem ahead (T : Td td) : ∀ {u : List Nat}, (∀ c ∈ u, td a c = false) → Heq td (u ++ [a]) (a :: u)
  | [], _ => Heq.refl td _
  | c :: u, h => by
    have i := ahead T (u := u) fun d hd => h d (List.mem_cons_of_mem _ hd)
    have h1 : Heq td (c :: (u ++ [a])) (c :: a :: u) := i.cons c
    have h2 : Heq td (c :: a :: u) (a :: c :: u) := swap T (by rw [T.s]; exact h c List.mem_cons_self) [] u
    exact h1.trans h2
/-- two words no letters of which are tied change places -/
theorem apart (T : Td td) : ∀ {u v : List Nat}, (∀ c ∈ u, ∀ d ∈ v, td c d = false) → Heq td (u ++ v) (v ++ u)
  | u, [], _ => by rw [List.append_nil]; exact Heq.refl td _
  | u, d :: v, h => by
    have h1 : Heq td (u ++ d :: v) (d :: (u ++ v)) := by
      have := (ahead T (a := d) (u := u) fun c hc => by rw [T.s]; exact h c hc d List.mem_cons_self).app (Heq.refl td v)
      rwa [List.append_assoc] at this
    have h2 := (apart T (u := u) (v := v) fun c hc e he => h c hc e (List.mem_cons_of_mem _ he)).cons d
    exact h1.trans h2
/-! ### fronts -/
/-- a stands at the front: no letter ahead of its first place is tied to it -/
def Fr (td : Nat → Nat → Bool) (a : Nat) (w : List Nat) : Prop := ∃ x y, w = x ++ a :: y ∧ ∀ c ∈ x, td a c = false
theorem Fr.mem (h : Fr td a w) : a ∈ w := by
  obtain ⟨x, y, rfl, _⟩ := h
  exact List.mem_append_right _ List.mem_cons_self
theorem fr_head (a : Nat) (u : List Nat) : Fr td a (a :: u) := ⟨[], u, rfl, fun _ h => (nomatch h)⟩
theorem fr_erase (T : Td td) {x y : List Nat} (h : ∀ c ∈ x, td a c = false) : (x ++ a :: y).erase a = x ++ y := by
  have hn : a ∉ x := fun hm => by have := h a hm; rw [T.r] at this; cases this
  rw [List.erase_append_right _ hn, List.erase_cons_head]
theorem first_place {a : Nat} : ∀ {l : List Nat}, a ∈ l → ∃ x y, l = x ++ a :: y ∧ a ∉ x
  | [], h => by cases h
  | c :: l, h => by
    by_cases e : c = a
    · exact ⟨[], l, by rw [e]; rfl, fun z => (nomatch z)⟩
    · have : a ∈ l := by
        rcases List.mem_cons.mp h with z | z
        · exact absurd z.symm e
        · exact z
      obtain ⟨x, y, e1, e2⟩ := first_place this
      exact ⟨c :: x, y, by rw [e1]; rfl, fun z => by
        rcases List.mem_cons.mp z with q | q
        · exact e q.symm
        · exact e2 q⟩
/-- THE LEMMA: where a word begins with a, the same heap otherwise written has a at its front -/
theorem split (T : Td td) (h : Heq td (a :: u) v) : ∃ x y, v = x ++ a :: y ∧ (∀ c ∈ x, td a c = false) ∧ Heq td u (x ++ y) := by
  have hm : a ∈ v := (h.mem T).mp List.mem_cons_self
  obtain ⟨x, y, hv, hx⟩ := first_place hm
  subst hv
  have hx2 : ∀ c ∈ x, td a c = false := fun c hc => by
    cases ht : td a c with
    | false => rfl
    | true =>
      exfalso
      have e := h a c ht
      rw [pr_in (.inl rfl), pr_app, pr_in (.inl rfl)] at e
      cases hp : pr a c x with
      | nil =>
        have : c ∈ pr a c x := pr_mem.mpr ⟨hc, .inr rfl⟩
        rw [hp] at this
        cases this
      | cons d r =>
        rw [hp] at e
        have ed : a = d := by simpa using (List.cons.inj e).1
        have : d ∈ pr a c x := by rw [hp]; exact List.mem_cons_self
        have := (pr_mem.mp this).1
        rw [← ed] at this
        exact hx this
  refine ⟨x, y, rfl, hx2, fun c d t => ?_⟩
  have e := h c d t
  by_cases hcd : a = c ∨ a = d
  · have hn : pr c d x = [] := pr_nil_of fun f hf => by
      have h1 := hx2 f hf
      have h2 : f ≠ a := fun z => hx (z ▸ hf)
      rcases hcd with rfl | rfl
      · exact ⟨h2, (fun z => by rw [← z, h1] at t; cases t)⟩
      · exact ⟨(fun z => by rw [T.s, ← z, h1] at t; cases t), h2⟩
    rw [pr_in hcd, pr_app, pr_in hcd, hn, List.nil_append] at e
    rw [pr_app, hn, List.nil_append]
    exact (List.cons.inj e).2
  · have n1 : a ≠ c := fun z => hcd (.inl z)
    have n2 : a ≠ d := fun z => hcd (.inr z)
    rw [pr_out n1 n2, pr_app, pr_out n1 n2] at e
    rw [pr_app]
    exact e
theorem fr_of (T : Td td) (h : Heq td (a :: u) v) : Fr td a v := by
  obtain ⟨x, y, e, hx, _⟩ := split T h
  exact ⟨x, y, e, hx⟩
theorem Fr.off (T : Td td) (h : Fr td a w) : Heq td w (a :: w.erase a) := by
  obtain ⟨x, y, rfl, hx⟩ := h
  rw [fr_erase T hx]
  have := (ahead T hx).app (Heq.refl td y)
  rwa [List.append_assoc] at this
theorem Fr.heq (T : Td td) (h : Heq td u v) (f : Fr td a u) : Fr td a v := fr_of T ((f.off T).symm.trans h)
theorem fr_iff (T : Td td) (h : Heq td u v) : Fr td a u ↔ Fr td a v := ⟨Fr.heq T h, Fr.heq T h.symm⟩
theorem Fr.erase (T : Td td) (h : Heq td u v) (f : Fr td a u) : Heq td (u.erase a) (v.erase a) :=
  Heq.tail (a := a) ((f.off T).symm.trans (h.trans ((f.heq T h).off T)))
theorem fr_cons (T : Td td) : Fr td a (b :: w) ↔ a = b ∨ (td a b = false ∧ Fr td a w) := by
  constructor
  · rintro ⟨x, y, e, hx⟩
    cases x with
    | nil => exact .inl (List.cons.inj e).1.symm
    | cons c x =>
      have e1 := (List.cons.inj e).1
      have e2 := (List.cons.inj e).2
      subst e1
      exact .inr ⟨hx b List.mem_cons_self, x, y, e2, fun d hd => hx d (List.mem_cons_of_mem _ hd)⟩
  · rintro (rfl | ⟨h, x, y, rfl, hx⟩)
    · exact fr_head a w
    · refine ⟨b :: x, y, rfl, fun d hd => ?_⟩
      rcases List.mem_cons.mp hd with rfl | z
      · exact h
      · exact hx d z
theorem fr_app (T : Td td) : Fr td a (u ++ v) ↔ Fr td a u ∨ ((∀ c ∈ u, td a c = false) ∧ Fr td a v) := by
  induction u with
  | nil =>
    constructor
    · intro h
      exact .inr ⟨fun _ z => (nomatch z), h⟩
    · rintro (h | h)
      · exact absurd h.mem (by simp)
      · exact h.2
  | cons b u ih =>
    rw [List.cons_append, fr_cons T, fr_cons T, ih]
    constructor
    · rintro (h | ⟨h1, h2 | ⟨h3, h4⟩⟩)
      · exact .inl (.inl h)
      · exact .inl (.inr ⟨h1, h2⟩)
      · refine .inr ⟨fun c hc => ?_, h4⟩
        rcases List.mem_cons.mp hc with rfl | z
        · exact h1
        · exact h3 c z
    · rintro ((h | ⟨h1, h2⟩) | ⟨h1, h2⟩)
      · exact .inl h
      · exact .inr ⟨h1, .inl h2⟩
      · exact .inr ⟨h1 b List.mem_cons_self, .inr ⟨fun c hc => h1 c (List.mem_cons_of_mem _ hc), h2⟩⟩
/-- two of the front are not tied -/
theorem fr_two (T : Td td) (ha : Fr td a w) (hb : Fr td b w) (ne : a ≠ b) : td a b = false := by
  have h := (fr_iff T (ha.off T)).mp hb
  rcases (fr_cons T).mp h with z | z
  · exact absurd z.symm ne
  · rw [T.s]; exact z.1
theorem fr_nil : ¬ Fr td a [] := fun h => by have := h.mem; cases this

/-! ### the least word -/
/-- no letter could come ahead of a greater one -/
def Least (td : Nat → Nat → Bool) (p : List Nat) : Prop := ∀ x b y a z, p = x ++ b :: y ++ a :: z → a < b → ∃ c ∈ b :: y, td c a = true
theorem Least.tail (h : Least td (a :: u)) : Least td u := fun x b y c z e hl => h (a :: x) b y c z (by rw [e]; rfl) hl
theorem least_nil : Least td [] := fun x b y a z e _ => by simp at e
theorem Least.head (T : Td td) (h : Least td (b :: u)) (f : Fr td a (b :: u)) : b ≤ a := by
  rcases Nat.lt_or_ge a b with hl | hl
  · obtain ⟨x, y, e, hx⟩ := f
    cases x with
    | nil => rw [(List.cons.inj e).1]; exact Nat.le_refl _
    | cons c x =>
      have e1 := (List.cons.inj e).1
      subst e1
      obtain ⟨d, hd, ht⟩ := h [] b x a y e hl
      rw [T.s, hx d hd] at ht
      cases ht
  · exact hl
theorem least_cons (T : Td td) (hu : Least td u) (hm : ∀ b, Fr td b (a :: u) → a ≤ b) : Least td (a :: u) := by
  intro x b y c z e hl
  cases x with
  | cons d x =>
    exact hu x b y c z (List.cons.inj e).2 hl
  | nil =>
    have e1 : a = b := (List.cons.inj e).1
    subst e1
    -- c is not of the front
    by_cases hf : ∃ d ∈ a :: y, td d c = true
    · exact hf
    · exfalso
      have : Fr td c (a :: u) := ⟨a :: y, z, e, fun d hd => by
        cases ht : td c d with
        | false => rfl
        | true => exact absurd ⟨d, hd, by rw [T.s]; exact ht⟩ hf⟩
      have := hm c this
      omega
/-- THE PLAIN WORD is one alone -/
theorem least_one (T : Td td) : ∀ {u v : List Nat}, Heq td u v → Least td u → Least td v → u = v
  | [], v, h, _, _ => (h.nil T).symm
  | a :: u, [], h, _, _ => (h.symm.nil T)
  | a :: u, b :: v, h, hu, hv => by
    have f1 : Fr td a (b :: v) := fr_of T h
    have f2 : Fr td b (a :: u) := fr_of T h.symm
    have e : a = b := Nat.le_antisymm (hu.head T f2) (hv.head T f1)
    subst e
    rw [least_one T h.tail hu.tail hv.tail]
end
end TR

namespace TR
section
variable {td : Nat → Nat → Bool} {u v w x y : List Nat} {a b c : Nat}
/-! ## TRACE2: layers, beginnings, what goes on from both -/
theorem up_eq : ∀ {l m : List Nat}, l.Pairwise (· < ·) → m.Pairwise (· < ·) → (∀ a, a ∈ l ↔ a ∈ m) → l = m
  | [], [], _, _, _ => rfl
  | [], b :: m, _, _, h => by have := (h b).mpr List.mem_cons_self; cases this
  | a :: l, [], _, _, h => by have := (h a).mp List.mem_cons_self; cases this
  | a :: l, b :: m, hl, hm, h => by
    obtain ⟨l1, l2⟩ := List.pairwise_cons.mp hl
    obtain ⟨m1, m2⟩ := List.pairwise_cons.mp hm
    have e : a = b := by
      rcases List.mem_cons.mp ((h a).mp List.mem_cons_self) with z | z
      · exact z
      · rcases List.mem_cons.mp ((h b).mpr List.mem_cons_self) with q | q
        · exact q.symm
        · have := m1 a z
          have := l1 b q
          omega
    subst e
    rw [up_eq l2 m2 fun c => ?_]
    constructor
    · intro hc
      rcases List.mem_cons.mp ((h c).mp (List.mem_cons_of_mem _ hc)) with z | z
      · have := l1 c hc
        omega
      · exact z
    · intro hc
      rcases List.mem_cons.mp ((h c).mpr (List.mem_cons_of_mem _ hc)) with z | z
      · have := m1 c hc
        omega
      · exact z
/-! ### layers -/
structure Flat (td : Nat → Nat → Bool) (l : List Nat) : Prop where
  ne : l ≠ []
  up : l.Pairwise (· < ·)
  un : ∀ a ∈ l, ∀ b ∈ l, a ≠ b → td a b = false
def Lay (td : Nat → Nat → Bool) : List Nat → List (List Nat) → Prop
  | _, [] => True
  | prev, l :: ls => Flat td l ∧ (∀ a ∈ l, ∃ b ∈ prev, td a b = true) ∧ Lay td l ls
def Layers (td : Nat → Nat → Bool) : List (List Nat) → Prop
  | [] => True
  | l :: ls => Flat td l ∧ Lay td l ls
theorem Lay.layers {prev : List Nat} : ∀ {ls : List (List Nat)}, Lay td prev ls → Layers td ls
  | [], _ => trivial
  | _ :: _, h => ⟨h.1, h.2.2⟩
theorem lay_fr (T : Td td) : ∀ {ls : List (List Nat)} {prev : List Nat}, Lay td prev ls → Fr td a ls.flatten → ∃ b ∈ prev, td a b = true
  | [], _, _, f => absurd f fr_nil
  | l :: ls, prev, h, f => by
    rw [List.flatten_cons, fr_app T] at f
    rcases f with f | ⟨f1, f2⟩
    · exact h.2.1 a f.mem
    · obtain ⟨b, hb, ht⟩ := lay_fr T h.2.2 f2
      rw [f1 b hb] at ht
      cases ht
theorem Flat.fr (h : Flat td w) (ha : a ∈ w) : Fr td a w := by
  obtain ⟨x, y, e, hx⟩ := first_place ha
  refine ⟨x, y, e, fun c hc => ?_⟩
  have hcw : c ∈ w := by rw [e]; exact List.mem_append_left _ hc
  exact h.un a ha c hcw fun z => hx (z ▸ hc)
theorem first_layer (T : Td td) {l : List Nat} {ls : List (List Nat)} (h : Flat td l) (hl : Lay td l ls) : Fr td a (l ++ ls.flatten) ↔ a ∈ l := by
  rw [fr_app T]
  constructor
  · rintro (f | ⟨f1, f2⟩)
    · exact f.mem
    · obtain ⟨b, hb, ht⟩ := lay_fr T hl f2
      rw [f1 b hb] at ht
      cases ht
  · exact fun h' => .inl (h.fr h')
/-- THE LAYERS are one row alone -/
theorem layers_one (T : Td td) : ∀ {ls ms : List (List Nat)}, Layers td ls → Layers td ms → Heq td ls.flatten ms.flatten → ls = ms
  | [], [], _, _, _ => rfl
  | [], m :: ms, _, hm, h => by
    have := h.nil T
    rw [List.flatten_cons, List.append_eq_nil_iff] at this
    exact absurd this.1 hm.1.ne
  | l :: ls, [], hl, _, h => by
    have := h.symm.nil T
    rw [List.flatten_cons, List.append_eq_nil_iff] at this
    exact absurd this.1 hl.1.ne
  | l :: ls, m :: ms, hl, hm, h => by
    rw [List.flatten_cons, List.flatten_cons] at h
    have e : l = m := up_eq hl.1.up hm.1.up fun a => by
      rw [← first_layer T hl.1 hl.2, ← first_layer T hm.1 hm.2]
      exact fr_iff T h
    subst e
    rw [layers_one T hl.2.layers hm.2.layers h.left]
/-! ### chains: how many layers there are -/
/-- each is tied to the next -/
def Chain (td : Nat → Nat → Bool) : List Nat → Prop
  | [] => True
  | [_] => True
  | a :: b :: r => td a b = true ∧ Chain td (b :: r)
theorem Chain.tail (h : Chain td (a :: u)) : Chain td u := by
  cases u with
  | nil => trivial
  | cons b r => exact h.2
theorem chain_heq (T : Td td) : ∀ {u v c : List Nat}, Heq td u v → Chain td c → c.Sublist u → c.Sublist v
  | [], v, c, h, _, hs => by rw [h.nil T]; exact hs
  | a :: u, v, c, h, hc, hs => by
    obtain ⟨x, y, e, hx, h2⟩ := split T h
    subst e
    have sub : (x ++ y).Sublist (x ++ a :: y) := List.Sublist.append (List.Sublist.refl _) (List.sublist_cons_self _ _)
    cases hs with
    | cons _ hs' => exact (chain_heq T h2 hc hs').trans sub
    | cons_cons _ hs' =>
      rename_i c'
      have i := chain_heq T h2 hc.tail hs'
      -- the next of the chain does not stand in x
      have hy : c'.Sublist y := by
        cases c' with
        | nil => exact List.nil_sublist _
        | cons b r =>
          have hb : td a b = true := hc.1
          have hbx : b ∉ x := fun z => by rw [hx b z] at hb; cases hb
          rw [List.sublist_append_iff] at i
          obtain ⟨l1, l2, e, s1, s2⟩ := i
          cases l1 with
          | nil => rw [List.nil_append] at e; rw [e]; exact s2
          | cons d l1 =>
            rw [List.cons_append] at e
            have := (List.cons.inj e).1
            subst this
            exact absurd (s1.subset List.mem_cons_self) hbx
      exact ((List.Sublist.cons_cons a hy).trans (List.sublist_append_right x _))
theorem chain_snoc : ∀ {c : List Nat} {a b : Nat}, Chain td (c ++ [a]) → td a b = true → Chain td (c ++ [a] ++ [b])
  | [], a, b, _, h => ⟨h, trivial⟩
  | [d], a, b, h1, h => ⟨h1.1, h, trivial⟩
  | d :: e :: c, a, b, h1, h => ⟨h1.1, chain_snoc (c := e :: c) h1.2 h⟩
theorem chain_rev (T : Td td) : ∀ {c : List Nat}, Chain td c → Chain td c.reverse
  | [], _ => trivial
  | [a], _ => trivial
  | a :: b :: r, h => by
    have i := chain_rev T h.2
    rw [List.reverse_cons] at i ⊢
    rw [List.reverse_cons]
    exact chain_snoc i (by rw [T.s]; exact h.1)
/-- a chain has at most one letter of each layer -/
theorem chain_flat {l c : List Nat} (h : Flat td l) (hc : Chain td c) (hs : c.Sublist l) : c.length ≤ 1 := by
  match c, hc, hs with
  | [], _, _ => exact Nat.zero_le _
  | [_], _, _ => exact Nat.le_refl _
  | a :: b :: r, hc, hs =>
    have hp := (h.up.sublist hs)
    have hab : a < b := (List.pairwise_cons.mp hp).1 b List.mem_cons_self
    have := h.un a (hs.subset List.mem_cons_self) b (hs.subset (List.mem_cons_of_mem _ List.mem_cons_self)) (by omega)
    rw [hc.1] at this
    cases this
theorem chain_app : ∀ {c d : List Nat}, Chain td (c ++ d) → Chain td c ∧ Chain td d
  | [], d, h => ⟨trivial, h⟩
  | [a], d, h => ⟨trivial, by cases d with | nil => trivial | cons b r => exact h.2⟩
  | a :: b :: c, d, h => by
    obtain ⟨i1, i2⟩ := chain_app (c := b :: c) h.2
    exact ⟨⟨h.1, i1⟩, i2⟩
theorem chain_le (_T : Td td) : ∀ {ls : List (List Nat)}, Layers td ls → ∀ {c : List Nat}, Chain td c → c.Sublist ls.flatten → c.length ≤ ls.length
  | [], _, c, _, hs => by
    have := List.sublist_nil.mp hs
    rw [this]
    exact Nat.le_refl _
  | l :: ls, h, c, hc, hs => by
    rw [List.flatten_cons, List.sublist_append_iff] at hs
    obtain ⟨c1, c2, e, s1, s2⟩ := hs
    subst e
    obtain ⟨k1, k2⟩ := chain_app hc
    have i := chain_le _T h.2.layers k2 s2
    have j := chain_flat h.1 k1 s1
    rw [List.length_append, List.length_cons]
    omega
/-- a chain goes through all layers -/
theorem chain_down (T : Td td) : ∀ {ls : List (List Nat)} {prev : List Nat}, prev ≠ [] → Lay td prev ls → ∃ p ∈ prev, ∃ c, Chain td (p :: c) ∧ c.Sublist ls.flatten ∧ c.length = ls.length
  | [], prev, ne, _ => by
    cases prev with
    | nil => exact absurd rfl ne
    | cons p prev => exact ⟨p, List.mem_cons_self, [], trivial, List.nil_sublist _, rfl⟩
  | l :: ls, prev, ne, h => by
    obtain ⟨p, hp, c, k1, k2, k3⟩ := chain_down T h.1.ne h.2.2
    obtain ⟨b, hb, ht⟩ := h.2.1 p hp
    refine ⟨b, hb, p :: c, ⟨by rw [T.s]; exact ht, k1⟩, ?_, by rw [List.length_cons, List.length_cons, k3]⟩
    rw [List.flatten_cons]
    have : ([p] : List Nat).Sublist l := List.singleton_sublist.mpr hp
    exact List.Sublist.append this k2
theorem chain_all (T : Td td) : ∀ {ls : List (List Nat)}, Layers td ls → ∃ c, Chain td c ∧ c.Sublist ls.flatten ∧ c.length = ls.length
  | [], _ => ⟨[], trivial, List.nil_sublist _, rfl⟩
  | l :: ls, h => by
    obtain ⟨p, hp, c, k1, k2, k3⟩ := chain_down T h.1.ne h.2
    refine ⟨p :: c, k1, ?_, by rw [List.length_cons, List.length_cons, k3]⟩
    rw [List.flatten_cons]
    exact List.Sublist.append (List.singleton_sublist.mpr hp) k2
theorem layers_rev (T : Td td) {ls ms : List (List Nat)} (hl : Layers td ls) (hm : Layers td ms) (h : Heq td ls.flatten.reverse ms.flatten) : ls.length = ms.length := by
  obtain ⟨c, k1, k2, k3⟩ := chain_all T hl
  obtain ⟨d, j1, j2, j3⟩ := chain_all T hm
  have h1 := chain_le T hm (chain_rev T k1) (chain_heq T h (chain_rev T k1) (List.reverse_sublist.mpr k2))
  have h' : Heq td ms.flatten.reverse ls.flatten := by
    have := h.symm.rev
    rwa [List.reverse_reverse] at this
  have h2 := chain_le T hl (chain_rev T j1) (chain_heq T h' (chain_rev T j1) (List.reverse_sublist.mpr j2))
  rw [List.length_reverse] at h1 h2
  omega

/-! ### beginnings -/
def Beg (td : Nat → Nat → Bool) (d w : List Nat) : Prop := ∃ z, Heq td (d ++ z) w
theorem Beg.heq (h : Beg td u w) (k : Heq td w v) : Beg td u v := by
  obtain ⟨z, hz⟩ := h
  exact ⟨z, hz.trans k⟩
theorem Beg.heq' (h : Beg td u w) (k : Heq td u v) : Beg td v w := by
  obtain ⟨z, hz⟩ := h
  exact ⟨z, (k.symm.app (Heq.refl td z)).trans hz⟩
theorem Beg.anti (T : Td td) (h : Beg td u v) (k : Beg td v u) : Heq td u v := by
  obtain ⟨z, hz⟩ := h
  obtain ⟨y, hy⟩ := k
  have l1 := hz.len T
  have l2 := hy.len T
  rw [List.length_append] at l1 l2
  have : z = [] := List.length_eq_zero_iff.mp (by omega)
  rw [this, List.append_nil] at hz
  exact hz
theorem beg_nil (w : List Nat) : Beg td [] w := ⟨w, Heq.refl td w⟩
theorem beg_self (w : List Nat) : Beg td w w := ⟨[], by rw [List.append_nil]; exact Heq.refl td w⟩
theorem beg_app (u v : List Nat) : Beg td u (u ++ v) := ⟨v, Heq.refl td _⟩
/-- letter by letter off the front -/
theorem beg_cons (T : Td td) : Beg td (a :: u) w ↔ Fr td a w ∧ Beg td u (w.erase a) := by
  constructor
  · rintro ⟨z, hz⟩
    have f : Fr td a w := fr_of T hz
    exact ⟨f, z, Heq.tail (a := a) (hz.trans (f.off T))⟩
  · rintro ⟨f, z, hz⟩
    exact ⟨z, (hz.cons a).trans (f.off T).symm⟩
/-- Levi: two ways to cut one heap -/
theorem levi (T : Td td) : ∀ {x y x' y' : List Nat}, Heq td (x ++ y) (x' ++ y') → ∃ p q r s, Heq td x (p ++ q) ∧ Heq td x' (p ++ r) ∧ Heq td y (r ++ s) ∧ Heq td y' (q ++ s) ∧ ∀ c ∈ q, ∀ d ∈ r, td c d = false
  | [], y, x', y', h => ⟨[], [], x', y', Heq.refl td _, Heq.refl td _, h, Heq.refl td _, fun _ z => (nomatch z)⟩
  | a :: x, y, x', y', h => by
    have f : Fr td a (x' ++ y') := fr_of T h
    rcases (fr_app T).mp f with f1 | ⟨f1, f2⟩
    · have h1 : Heq td (x ++ y) (x'.erase a ++ y') := Heq.tail (a := a) (h.trans ((f1.off T).app (Heq.refl td y')))
      obtain ⟨p, q, r, s, e1, e2, e3, e4, e5⟩ := levi T h1
      exact ⟨a :: p, q, r, s, e1.cons a, (f1.off T).trans (e2.cons a), e3, e4, e5⟩
    · have h0 : Heq td (x' ++ y') (a :: (x' ++ y'.erase a)) := by
        have k1 := (Heq.refl td x').app (f2.off T)
        have k2 := (ahead T f1).app (Heq.refl td (y'.erase a))
        rw [List.append_assoc] at k2
        exact k1.trans k2
      have h1 : Heq td (x ++ y) (x' ++ y'.erase a) := Heq.tail (a := a) (h.trans h0)
      obtain ⟨p, q, r, s, e1, e2, e3, e4, e5⟩ := levi T h1
      have hp : ∀ c ∈ p, td a c = false := fun c hc => f1 c ((e2.mem T).mpr (List.mem_append_left _ hc))
      have hr : ∀ c ∈ r, td a c = false := fun c hc => f1 c ((e2.mem T).mpr (List.mem_append_right _ hc))
      refine ⟨p, a :: q, r, s, ?_, e2, e3, (f2.off T).trans (e4.cons a), fun c hc d hd => ?_⟩
      · have k1 := (ahead T hp).symm.app (Heq.refl td q)
        rw [List.append_assoc] at k1
        exact (e1.cons a).trans k1
      · rcases List.mem_cons.mp hc with rfl | z
        · exact hr d hd
        · exact e5 c z d hd
/-- no letter of both fronts -/
def Dis (td : Nat → Nat → Bool) (x y : List Nat) : Prop := ∀ a, Fr td a x → Fr td a y → False
/-- THE GREATEST common beginning: behind it the fronts have nothing in common -/
theorem common_max (T : Td td) : ∀ {d c x x' w w' : List Nat}, Heq td (c ++ x) w → Heq td (c ++ x') w' → Dis td x x' → Beg td d w → Beg td d w' → Beg td d c
  | [], c, _, _, _, _, _, _, _, _, _ => beg_nil c
  | a :: d, c, x, x', w, w', h, h', di, b, b' => by
    obtain ⟨f, g⟩ := (beg_cons T).mp b
    obtain ⟨f', g'⟩ := (beg_cons T).mp b'
    have k := (fr_app T).mp (f.heq T h.symm)
    have k' := (fr_app T).mp (f'.heq T h'.symm)
    have fc : Fr td a c := by
      rcases k with k | ⟨k1, k2⟩
      · exact k
      · rcases k' with k' | ⟨k1', k2'⟩
        · exact k'
        · exact (di a k2 k2').elim
    refine (beg_cons T).mpr ⟨fc, ?_⟩
    have hw : Heq td (c.erase a ++ x) (w.erase a) := by
      have e1 : Heq td (a :: (c.erase a ++ x)) (c ++ x) := (fc.off T).symm.app (Heq.refl td x)
      exact Heq.tail (a := a) (e1.trans (h.trans (f.off T)))
    have hw' : Heq td (c.erase a ++ x') (w'.erase a) := by
      have e1 : Heq td (a :: (c.erase a ++ x')) (c ++ x') := (fc.off T).symm.app (Heq.refl td x')
      exact Heq.tail (a := a) (e1.trans (h'.trans (f'.off T)))
    exact common_max T hw hw' di g g'
/-- two words with nothing in common at their fronts that some heap goes on from: no letters of theirs are tied -/
theorem both_apart (T : Td td) {x y x' y' : List Nat} (h : Heq td (x ++ y) (x' ++ y')) (di : Dis td x x') : (∀ c ∈ x, ∀ d ∈ x', td c d = false) ∧ ∃ s, Heq td y (x' ++ s) := by
  obtain ⟨p, q, r, s, e1, e2, e3, e4, e5⟩ := levi T h
  have hp : p = [] := by
    cases p with
    | nil => rfl
    | cons a p => exact (di a (fr_of T e1.symm) (fr_of T e2.symm)).elim
  subst hp
  rw [List.nil_append] at e1 e2
  refine ⟨fun c hc d hd => e5 c ((e1.mem T).mp hc) d ((e2.mem T).mp hd), s, e3.trans (e2.symm.app (Heq.refl td s))⟩
end
end TR

namespace TR
section
variable {td : Nat → Nat → Bool} {u v w x y : List Nat} {a b c : Nat}
/-! ## TRACE3: the letters of the front, all words of a heap, how many -/
/-- behind pre: the letters to which no letter ahead is tied, in the order of their places -/
def frs (td : Nat → Nat → Bool) : List Nat → List Nat → List Nat
  | _, [] => []
  | pre, a :: w => if pre.all (fun c => !td a c) = true then a :: frs td (pre ++ [a]) w else frs td (pre ++ [a]) w
def firsts (td : Nat → Nat → Bool) (w : List Nat) : List Nat := frs td [] w
theorem all_un {pre : List Nat} {a : Nat} : pre.all (fun c => !td a c) = true ↔ ∀ c ∈ pre, td a c = false := by
  rw [List.all_eq_true]
  constructor
  · intro h c hc
    have := h c hc
    simpa using this
  · intro h c hc
    simp [h c hc]
theorem mem_frs (T : Td td) : ∀ {w pre : List Nat}, a ∈ frs td pre w ↔ (∀ c ∈ pre, td a c = false) ∧ Fr td a w
  | [], pre => ⟨(fun h => by cases h), fun h => absurd h.2 fr_nil⟩
  | b :: w, pre => by
    unfold frs
    have i := mem_frs T (w := w) (pre := pre ++ [b])
    have sp : (∀ c ∈ pre ++ [b], td a c = false) ↔ (∀ c ∈ pre, td a c = false) ∧ td a b = false := by
      constructor
      · intro h
        exact ⟨fun c hc => h c (List.mem_append_left _ hc), h b (List.mem_append_right _ List.mem_cons_self)⟩
      · rintro ⟨h1, h2⟩ c hc
        rcases List.mem_append.mp hc with z | z
        · exact h1 c z
        · rw [List.mem_singleton.mp z]; exact h2
    rw [sp] at i
    rw [fr_cons T]
    split
    · rename_i hp
      have hp' := all_un.mp hp
      rw [List.mem_cons, i]
      constructor
      · rintro (rfl | ⟨⟨h1, h2⟩, h3⟩)
        · exact ⟨hp', .inl rfl⟩
        · exact ⟨h1, .inr ⟨h2, h3⟩⟩
      · rintro ⟨h1, rfl | ⟨h2, h3⟩⟩
        · exact .inl rfl
        · exact .inr ⟨⟨h1, h2⟩, h3⟩
    · rename_i hp
      rw [i]
      constructor
      · rintro ⟨⟨h1, h2⟩, h3⟩
        exact ⟨h1, .inr ⟨h2, h3⟩⟩
      · rintro ⟨h1, rfl | ⟨h2, h3⟩⟩
        · exact absurd (all_un.mpr h1) hp
        · exact ⟨⟨h1, h2⟩, h3⟩
theorem mem_firsts (T : Td td) : a ∈ firsts td w ↔ Fr td a w := by
  unfold firsts
  rw [mem_frs T]
  exact ⟨fun h => h.2, fun h => ⟨fun _ z => (nomatch z), h⟩⟩
theorem nodup_frs (T : Td td) : ∀ {w pre : List Nat}, (frs td pre w).Nodup
  | [], _ => List.nodup_nil
  | b :: w, pre => by
    unfold frs
    split
    · refine List.nodup_cons.mpr ⟨fun h => ?_, nodup_frs T⟩
      have := ((mem_frs T).mp h).1 b (List.mem_append_right _ List.mem_cons_self)
      rw [T.r] at this
      cases this
    · exact nodup_frs T
theorem nodup_firsts (T : Td td) (w : List Nat) : (firsts td w).Nodup := nodup_frs T
/-- all words of a heap (n: its length) -/
def lin (td : Nat → Nat → Bool) : Nat → List Nat → List (List Nat)
  | 0, _ => [[]]
  | n + 1, w => (firsts td w).flatMap fun a => (lin td n (w.erase a)).map (a :: ·)
theorem mem_lin (T : Td td) : ∀ {n : Nat} {w v : List Nat}, w.length = n → (v ∈ lin td n w ↔ Heq td v w)
  | 0, w, v, hn => by
    have hw : w = [] := List.length_eq_zero_iff.mp hn
    subst hw
    unfold lin
    rw [List.mem_singleton]
    constructor
    · rintro rfl
      exact Heq.refl td _
    · intro h
      exact h.symm.nil T
  | n + 1, w, v, hn => by
    unfold lin
    rw [List.mem_flatMap]
    constructor
    · rintro ⟨a, ha, hv⟩
      obtain ⟨u, hu, rfl⟩ := List.mem_map.mp hv
      have f := (mem_firsts T).mp ha
      have hl : (w.erase a).length = n := by rw [List.length_erase_of_mem f.mem, hn]; rfl
      exact (((mem_lin T hl).mp hu).cons a).trans (f.off T).symm
    · intro h
      cases v with
      | nil =>
        have := h.len T
        rw [hn] at this
        cases this
      | cons a u =>
        have f : Fr td a w := fr_of T h
        have hl : (w.erase a).length = n := by rw [List.length_erase_of_mem f.mem, hn]; rfl
        exact ⟨a, (mem_firsts T).mpr f, List.mem_map.mpr ⟨u, (mem_lin T hl).mpr (Heq.tail (a := a) (h.trans (f.off T))), rfl⟩⟩
theorem nodup_map_cons {l : List (List Nat)} (h : l.Nodup) (a : Nat) : (l.map (a :: ·)).Nodup := by
  induction l with
  | nil => exact List.nodup_nil
  | cons x l ih =>
    obtain ⟨h1, h2⟩ := List.nodup_cons.mp h
    rw [List.map_cons]
    refine List.nodup_cons.mpr ⟨fun hm => ?_, ih h2⟩
    obtain ⟨y, hy, e⟩ := List.mem_map.mp hm
    rw [(List.cons.inj e).2] at hy
    exact h1 hy
theorem nodup_flat {f : Nat → List (List Nat)} : ∀ {l : List Nat}, l.Nodup → (∀ a ∈ l, (f a).Nodup) → (∀ a b v, v ∈ f a → v ∈ f b → a = b) → (l.flatMap f).Nodup
  | [], _, _, _ => List.nodup_nil
  | a :: l, h, h1, h2 => by
    obtain ⟨n1, n2⟩ := List.nodup_cons.mp h
    rw [List.flatMap_cons]
    refine List.nodup_append.mpr ⟨h1 a List.mem_cons_self, nodup_flat n2 (fun b hb => h1 b (List.mem_cons_of_mem _ hb)) h2, fun x hx y hy e => ?_⟩
    subst e
    obtain ⟨b, hb, hx2⟩ := List.mem_flatMap.mp hy
    have := h2 a b x hx hx2
    subst this
    exact n1 hb
theorem nodup_lin (T : Td td) : ∀ (n : Nat) (w : List Nat), (lin td n w).Nodup
  | 0, _ => by unfold lin; simp
  | n + 1, w => by
    unfold lin
    refine nodup_flat (nodup_firsts T w) (fun a _ => nodup_map_cons (nodup_lin T n _) a) fun a b v h1 h2 => ?_
    obtain ⟨x, _, rfl⟩ := List.mem_map.mp h1
    obtain ⟨y, _, e⟩ := List.mem_map.mp h2
    exact (List.cons.inj e).1.symm
/-- how many words -/
def cnt (td : Nat → Nat → Bool) (w : List Nat) : Nat := (lin td w.length w).length
theorem len_le {l m : List (List Nat)} (h : l.Nodup) (k : ∀ x ∈ l, x ∈ m) : l.length ≤ m.length := by
  induction l generalizing m with
  | nil => exact Nat.zero_le _
  | cons x l ih =>
    obtain ⟨n1, n2⟩ := List.nodup_cons.mp h
    have hx := k x List.mem_cons_self
    have i := ih (m := m.erase x) n2 fun y hy => by
      have hne : y ≠ x := fun e => n1 (e ▸ hy)
      exact (List.mem_erase_of_ne hne).mpr (k y (List.mem_cons_of_mem _ hy))
    rw [List.length_erase_of_mem hx] at i
    have : 0 < m.length := List.length_pos_of_mem hx
    rw [List.length_cons]
    omega
theorem len_eq {l m : List (List Nat)} (h : l.Nodup) (k : m.Nodup) (e : ∀ x, x ∈ l ↔ x ∈ m) : l.length = m.length :=
  Nat.le_antisymm (len_le h fun x => (e x).mp) (len_le k fun x => (e x).mpr)
/-- a list of unlike words, just those of the heap, has cnt many -/
theorem cnt_of (T : Td td) {l : List (List Nat)} (h : l.Nodup) (k : ∀ v, v ∈ l ↔ Heq td v w) : l.length = cnt td w :=
  len_eq h (nodup_lin T _ _) fun v => by rw [k v, mem_lin T rfl]
theorem cnt_heq (T : Td td) (h : Heq td u v) : cnt td u = cnt td v :=
  len_eq (nodup_lin T _ _) (nodup_lin T _ _) fun x => by
    rw [mem_lin T rfl, mem_lin T rfl]
    exact ⟨fun k => k.trans h, fun k => k.trans h.symm⟩
theorem sum_len {f : Nat → List (List Nat)} : ∀ l : List Nat, (l.flatMap f).length = (l.map fun a => (f a).length).sum
  | [] => rfl
  | a :: l => by rw [List.flatMap_cons, List.length_append, sum_len l, List.map_cons, List.sum_cons]
theorem cnt_nil : cnt td [] = 1 := rfl
theorem cnt_rec (_T : Td td) (h : w ≠ []) : cnt td w = ((firsts td w).map fun a => cnt td (w.erase a)).sum := by
  obtain ⟨b, w', rfl⟩ : ∃ b w', w = b :: w' := by
    cases w with
    | nil => exact absurd rfl h
    | cons b w' => exact ⟨b, w', rfl⟩
  show (lin td (w'.length + 1) (b :: w')).length = _
  unfold lin
  rw [sum_len]
  congr 1
  refine List.map_congr_left fun a ha => ?_
  rw [List.length_map]
  have f := (mem_firsts _T).mp ha
  have hl : ((b :: w').erase a).length = w'.length := by rw [List.length_erase_of_mem f.mem]; rfl
  unfold cnt
  rw [hl]
theorem nodup_rev {l : List (List Nat)} (h : l.Nodup) : (l.map List.reverse).Nodup := by
  induction l with
  | nil => exact List.nodup_nil
  | cons x l ih =>
    obtain ⟨h1, h2⟩ := List.nodup_cons.mp h
    rw [List.map_cons]
    refine List.nodup_cons.mpr ⟨fun hm => ?_, ih h2⟩
    obtain ⟨y, hy, e⟩ := List.mem_map.mp hm
    rw [List.reverse_inj.mp e] at hy
    exact h1 hy
theorem cnt_rev (T : Td td) (w : List Nat) : cnt td w.reverse = cnt td w := by
  rw [← cnt_of T (l := (lin td w.length w).map List.reverse) (nodup_rev (nodup_lin T _ _)) fun v => ?_]
  · rw [List.length_map]
    rfl
  · constructor
    · intro h
      obtain ⟨x, hx, rfl⟩ := List.mem_map.mp h
      exact ((mem_lin T rfl).mp hx).rev
    · intro h
      refine List.mem_map.mpr ⟨v.reverse, (mem_lin T rfl).mpr ?_, List.reverse_reverse v⟩
      have := h.rev
      rwa [List.reverse_reverse] at this
/-- all tied: the word alone -/
theorem tied_one (T : Td td) : ∀ {u v : List Nat}, (∀ a ∈ u, ∀ b ∈ u, td a b = true) → Heq td u v → u = v
  | [], v, _, h => (h.nil T).symm
  | a :: u, v, ht, h => by
    obtain ⟨x, y, e, hx, h2⟩ := split T h
    have hn : x = [] := by
      cases x with
      | nil => rfl
      | cons c x =>
        have hc : c ∈ a :: u := (h.mem T).mpr (by rw [e]; exact List.mem_append_left _ List.mem_cons_self)
        have := ht a List.mem_cons_self c hc
        rw [hx c List.mem_cons_self] at this
        cases this
    subst hn
    rw [List.nil_append] at e h2
    rw [e, tied_one T (fun b hb c hc => ht b (List.mem_cons_of_mem _ hb) c (List.mem_cons_of_mem _ hc)) h2]
theorem cnt_tied (T : Td td) (ht : ∀ a ∈ w, ∀ b ∈ w, td a b = true) : cnt td w = 1 := by
  rw [← cnt_of T (l := [w]) (by simp) fun v => ?_]
  · rfl
  · rw [List.mem_singleton]
    constructor
    · rintro rfl
      exact Heq.refl td _
    · intro h
      exact (tied_one T ht h.symm).symm
/-! ### all loose: the ways to mix the letters -/
def loose : Nat → Nat → Bool := fun a b => a == b
theorem loose_td : Td loose := ⟨fun a => by simp [loose], fun a b => by unfold loose; rw [Bool.eq_iff_iff]; simp; exact ⟨Eq.symm, Eq.symm⟩⟩
theorem pr_rep (a : Nat) : ∀ u : List Nat, pr a a u = List.replicate (u.count a) a
  | [] => rfl
  | b :: u => by
    by_cases e : b = a
    · subst e
      rw [pr_in (.inl rfl), pr_rep b u, List.count_cons_self]
      rfl
    · rw [pr_out e e, pr_rep a u, List.count_cons_of_ne e]
theorem loose_perm : Heq loose u v ↔ u.Perm v := by
  constructor
  · exact fun h => h.perm loose_td
  · intro h a b t
    have : a = b := by simpa [loose] using t
    subst this
    rw [pr_rep, pr_rep, h.count_eq]
theorem fr_loose (h : a ∈ w) : Fr loose a w := by
  obtain ⟨x, y, e, hx⟩ := first_place h
  refine ⟨x, y, e, fun c hc => ?_⟩
  have : a ≠ c := fun z => hx (z ▸ hc)
  simpa [loose] using this
theorem mem_firsts_loose : a ∈ firsts loose w ↔ a ∈ w := by
  rw [mem_firsts loose_td]
  exact ⟨Fr.mem, fr_loose⟩
theorem sum_mul (k : Nat) (f : Nat → Nat) : ∀ l : List Nat, (l.map fun b => k * f b).sum = k * (l.map f).sum
  | [] => by simp
  | b :: l => by rw [List.map_cons, List.map_cons, List.sum_cons, List.sum_cons, sum_mul k f l, Nat.mul_add]
/-- the others, each once -/
theorem others (w : List Nat) (a : Nat) : ∃ r : List Nat, r.Nodup ∧ (∀ b, b ∈ r ↔ b ≠ a ∧ b ∈ w) :=
  ⟨(firsts loose w).erase a, (nodup_firsts loose_td w).erase a, fun b => by rw [(nodup_firsts loose_td w).mem_erase_iff, mem_firsts_loose]⟩
theorem cnt_split (hw : a ∈ w) {r : List Nat} (hr : r.Nodup) (hm : ∀ b, b ∈ r ↔ b ≠ a ∧ b ∈ w) : cnt loose w = cnt loose (w.erase a) + (r.map fun b => cnt loose (w.erase b)).sum := by
  have hne : w ≠ [] := fun z => by rw [z] at hw; cases hw
  rw [cnt_rec loose_td hne]
  have hp : (firsts loose w).Perm (a :: r) := by
    refine (List.perm_ext_iff_of_nodup (nodup_firsts loose_td w) (List.nodup_cons.mpr ⟨fun z => ((hm a).mp z).1 rfl, hr⟩)).mpr fun b => ?_
    rw [mem_firsts_loose, List.mem_cons, hm]
    constructor
    · intro h
      by_cases e : b = a
      · exact .inl e
      · exact .inr ⟨e, h⟩
    · rintro (rfl | h)
      · exact hw
      · exact h.2
  rw [(hp.map fun b => cnt loose (w.erase b)).sum_nat, List.map_cons, List.sum_cons]
/-- how often, times the number, is the length times the number without it -/
theorem mix_step : ∀ (n : Nat) {w : List Nat} {a : Nat}, w.length = n → a ∈ w → w.count a * cnt loose w = w.length * cnt loose (w.erase a)
  | 0, w, a, hn, ha => by
    have : w = [] := List.length_eq_zero_iff.mp hn
    subst this
    cases ha
  | n + 1, w, a, hn, ha => by
    obtain ⟨r, hr, hm⟩ := others w a
    have e1 := cnt_split ha hr hm
    have hla : (w.erase a).length = n := by rw [List.length_erase_of_mem ha, hn]; rfl
    -- each of the others
    have e2 : w.count a * (r.map fun b => cnt loose (w.erase b)).sum = n * (r.map fun b => cnt loose ((w.erase a).erase b)).sum := by
      rw [← sum_mul, ← sum_mul]
      congr 1
      refine List.map_congr_left fun b hb => ?_
      obtain ⟨nb, hbw⟩ := (hm b).mp hb
      have hlb : (w.erase b).length = n := by rw [List.length_erase_of_mem hbw, hn]; rfl
      have hab : a ∈ w.erase b := (List.mem_erase_of_ne (Ne.symm nb)).mpr ha
      have i := mix_step n hlb hab
      rw [List.count_erase_of_ne (Ne.symm nb), hlb, List.erase_comm] at i
      exact i
    have hc : 0 < w.count a := List.count_pos_iff.mpr ha
    by_cases hwa : w.erase a = []
    · have hn0 : n = 0 := by rw [← hla, hwa]; rfl
      have hc1 : w.count a = 1 := by
        have := List.count_le_length (a := a) (l := w)
        omega
      have hr0 : r = [] := by
        cases r with
        | nil => rfl
        | cons b r =>
          obtain ⟨nb, hbw⟩ := (hm b).mp List.mem_cons_self
          have : b ∈ w.erase a := (List.mem_erase_of_ne nb).mpr hbw
          rw [hwa] at this
          cases this
      rw [hr0] at e1
      have e1' : cnt loose w = cnt loose (w.erase a) := by simpa using e1
      rw [hc1, e1', hn, hn0]
    · by_cases h2 : a ∈ w.erase a
      · have hm2 : ∀ b, b ∈ r ↔ b ≠ a ∧ b ∈ w.erase a := fun b => by
          rw [hm]
          constructor
          · rintro ⟨p, q⟩
            exact ⟨p, (List.mem_erase_of_ne p).mpr q⟩
          · rintro ⟨p, q⟩
            exact ⟨p, List.mem_of_mem_erase q⟩
        have e3 := cnt_split h2 hr hm2
        have i := mix_step n hla h2
        rw [List.count_erase_self, hla] at i
        -- count * C + n * S, C = D + S, (count - 1) * C = n * D
        rw [e1, Nat.mul_add, e2, hn, Nat.add_mul, Nat.one_mul]
        have e4 : n * cnt loose (w.erase a) = n * cnt loose ((w.erase a).erase a) + n * (r.map fun b => cnt loose ((w.erase a).erase b)).sum := by
          rw [← Nat.mul_add, ← e3]
        have e5 : w.count a * cnt loose (w.erase a) = (w.count a - 1) * cnt loose (w.erase a) + cnt loose (w.erase a) := by
          have : w.count a = (w.count a - 1) + 1 := by omega
          conv => lhs; rw [this, Nat.add_mul, Nat.one_mul]
        omega
      · have hc1 : w.count a = 1 := by
          have : (w.erase a).count a = 0 := List.count_eq_zero.mpr h2
          rw [List.count_erase_self] at this
          omega
        have hm2 : ∀ b, b ∈ r ↔ b ∈ firsts loose (w.erase a) := fun b => by
          rw [hm, mem_firsts_loose]
          constructor
          · rintro ⟨p, q⟩
            exact (List.mem_erase_of_ne p).mpr q
          · intro q
            exact ⟨fun z => h2 (z ▸ q), List.mem_of_mem_erase q⟩
        have hp := (List.perm_ext_iff_of_nodup hr (nodup_firsts loose_td (w.erase a))).mpr hm2
        have e3 := cnt_rec loose_td hwa
        rw [← (hp.map fun b => cnt loose ((w.erase a).erase b)).sum_nat] at e3
        rw [e1, Nat.mul_add, e2, ← e3, hc1, hn, Nat.add_mul, Nat.one_mul]
        omega
/-- the law's own way to count: letter by letter -/
theorem mix_snoc (p : List Nat) (a : Nat) : cnt loose (p ++ [a]) = cnt loose p * (p.length + 1) / (p ++ [a]).count a := by
  have hm : a ∈ p ++ [a] := List.mem_append_right _ List.mem_cons_self
  have h := mix_step _ (w := p ++ [a]) rfl hm
  have hp : ((p ++ [a]).erase a).Perm p := by
    have h1 := List.perm_cons_erase hm
    have h2 : (p ++ [a]).Perm (a :: p) := List.perm_append_singleton a p
    exact (List.perm_cons a).mp (h1.symm.trans h2)
  rw [cnt_heq loose_td (loose_perm.mpr hp), List.length_append] at h
  have hc : 0 < (p ++ [a]).count a := List.count_pos_iff.mpr hm
  refine (Nat.div_eq_of_eq_mul_right hc ?_).symm
  rw [h, Nat.mul_comm]
  rfl
end
end TR

namespace TR
section
variable {td : Nat → Nat → Bool} {u v w x y : List Nat} {a b c : Nat}
/-! ## TRACE4: the plain word made; heaps of a length by crowds -/
/-- the least of a list (0 if there is none) -/
def lst (l : List Nat) : Nat := match l with
  | [] => 0
  | a :: l => l.foldl min a
theorem foldl_min : ∀ (l : List Nat) (a : Nat), (l.foldl min a ∈ a :: l) ∧ ∀ b ∈ a :: l, l.foldl min a ≤ b
  | [], a => ⟨List.mem_cons_self, fun b hb => by rw [List.mem_singleton.mp hb]; exact Nat.le_refl _⟩
  | c :: l, a => by
    obtain ⟨h1, h2⟩ := foldl_min l (min a c)
    rw [List.foldl_cons]
    constructor
    · rcases List.mem_cons.mp h1 with z | z
      · rw [z]
        by_cases h : a ≤ c
        · rw [Nat.min_eq_left h]; exact List.mem_cons_self
        · rw [Nat.min_eq_right (by omega)]; exact List.mem_cons_of_mem _ List.mem_cons_self
      · exact List.mem_cons_of_mem _ (List.mem_cons_of_mem _ z)
    · intro b hb
      have h3 := h2 (min a c) List.mem_cons_self
      rcases List.mem_cons.mp hb with rfl | z
      · omega
      · rcases List.mem_cons.mp z with rfl | q
        · omega
        · exact h2 b (List.mem_cons_of_mem _ q)
theorem lst_mem {l : List Nat} (h : l ≠ []) : lst l ∈ l := by
  cases l with
  | nil => exact absurd rfl h
  | cons a l => exact (foldl_min l a).1
theorem lst_le {l : List Nat} (h : b ∈ l) : lst l ≤ b := by
  cases l with
  | nil => cases h
  | cons a l => exact (foldl_min l a).2 b h
def plN (td : Nat → Nat → Bool) : Nat → List Nat → List Nat
  | 0, _ => []
  | n + 1, w => lst (firsts td w) :: plN td n (w.erase (lst (firsts td w)))
def pl (td : Nat → Nat → Bool) (w : List Nat) : List Nat := plN td w.length w
theorem firsts_ne (T : Td td) (h : w ≠ []) : firsts td w ≠ [] := by
  cases w with
  | nil => exact absurd rfl h
  | cons a w =>
    intro z
    have : a ∈ firsts td (a :: w) := (mem_firsts T).mpr (fr_head a w)
    rw [z] at this
    cases this
theorem plN_ok (T : Td td) : ∀ {n : Nat} {w : List Nat}, w.length = n → Heq td w (plN td n w) ∧ Least td (plN td n w)
  | 0, w, h => by
    have : w = [] := List.length_eq_zero_iff.mp h
    subst this
    exact ⟨Heq.refl td _, least_nil⟩
  | n + 1, w, h => by
    have hne : w ≠ [] := fun z => by rw [z] at h; cases h
    have hm := lst_mem (firsts_ne T hne)
    have f := (mem_firsts T).mp hm
    have hl : (w.erase (lst (firsts td w))).length = n := by rw [List.length_erase_of_mem f.mem, h]; rfl
    obtain ⟨i1, i2⟩ := plN_ok T hl
    have e : Heq td w (plN td (n + 1) w) := (f.off T).trans (i1.cons _)
    refine ⟨e, least_cons T i2 fun b hb => ?_⟩
    exact lst_le ((mem_firsts T).mpr (hb.heq T e.symm))
theorem pl_heq (T : Td td) (w : List Nat) : Heq td w (pl td w) := (plN_ok T rfl).1
theorem pl_least (T : Td td) (w : List Nat) : Least td (pl td w) := (plN_ok T rfl).2
/-- a word is its heap's plain one just if it is least -/
theorem pl_eq (T : Td td) (h : Heq td w v) (k : Least td v) : pl td w = v := least_one T ((pl_heq T w).symm.trans h) (pl_least T w) k
theorem pl_self (T : Td td) : pl td w = w ↔ Least td w := ⟨fun h => h ▸ pl_least T w, fun h => pl_eq T (Heq.refl td w) h⟩
theorem pl_iff (T : Td td) : pl td u = pl td v ↔ Heq td u v :=
  ⟨fun h => (pl_heq T u).trans (h ▸ (pl_heq T v).symm), fun h => pl_eq T (h.trans (pl_heq T v)) (pl_least T v)⟩
theorem pl_len (T : Td td) (w : List Nat) : (pl td w).length = w.length := ((pl_heq T w).len T).symm
theorem pl_mem (T : Td td) : a ∈ pl td w ↔ a ∈ w := ((pl_heq T w).mem T).symm
theorem pl_nil : pl td [] = [] := rfl
/-! ### words of a length, heaps of a length -/
def allW (L : List Nat) : Nat → List (List Nat)
  | 0 => [[]]
  | n + 1 => (allW L n).flatMap fun w => L.map fun a => w ++ [a]
theorem mem_allW {L : List Nat} : ∀ {n : Nat} {w : List Nat}, w ∈ allW L n ↔ w.length = n ∧ ∀ a ∈ w, a ∈ L
  | 0, w => by
    unfold allW
    rw [List.mem_singleton]
    constructor
    · rintro rfl
      exact ⟨rfl, fun _ h => (nomatch h)⟩
    · rintro ⟨h, _⟩
      exact List.length_eq_zero_iff.mp h
  | n + 1, w => by
    unfold allW
    rw [List.mem_flatMap]
    constructor
    · rintro ⟨v, hv, hw⟩
      obtain ⟨a, ha, rfl⟩ := List.mem_map.mp hw
      obtain ⟨h1, h2⟩ := mem_allW.mp hv
      refine ⟨by rw [List.length_append, h1]; rfl, fun b hb => ?_⟩
      rcases List.mem_append.mp hb with z | z
      · exact h2 b z
      · rw [List.mem_singleton.mp z]; exact ha
    · rintro ⟨h1, h2⟩
      have hne : w ≠ [] := fun z => by rw [z] at h1; cases h1
      have e := List.dropLast_concat_getLast hne
      refine ⟨w.dropLast, mem_allW.mpr ⟨by rw [List.length_dropLast, h1]; rfl, fun b hb => h2 b (List.dropLast_subset w hb)⟩, List.mem_map.mpr ⟨w.getLast hne, h2 _ (List.getLast_mem hne), e⟩⟩
theorem nodup_app_map {L : List Nat} (h : L.Nodup) (w : List Nat) : (L.map fun a => w ++ [a]).Nodup := by
  induction L with
  | nil => exact List.nodup_nil
  | cons a L ih =>
    obtain ⟨h1, h2⟩ := List.nodup_cons.mp h
    rw [List.map_cons]
    refine List.nodup_cons.mpr ⟨fun hm => ?_, ih h2⟩
    obtain ⟨b, hb, e⟩ := List.mem_map.mp hm
    have := List.append_cancel_left e
    rw [(List.cons.inj this).1] at hb
    exact h1 hb
theorem nodup_flat2 {f : List Nat → List (List Nat)} : ∀ {l : List (List Nat)}, l.Nodup → (∀ a ∈ l, (f a).Nodup) → (∀ a b v, v ∈ f a → v ∈ f b → a = b) → (l.flatMap f).Nodup
  | [], _, _, _ => List.nodup_nil
  | a :: l, h, h1, h2 => by
    obtain ⟨n1, n2⟩ := List.nodup_cons.mp h
    rw [List.flatMap_cons]
    refine List.nodup_append.mpr ⟨h1 a List.mem_cons_self, nodup_flat2 n2 (fun b hb => h1 b (List.mem_cons_of_mem _ hb)) h2, fun x hx y hy e => ?_⟩
    subst e
    obtain ⟨b, hb, hx2⟩ := List.mem_flatMap.mp hy
    have := h2 a b x hx hx2
    subst this
    exact n1 hb
theorem nodup_allW {L : List Nat} (h : L.Nodup) : ∀ n, (allW L n).Nodup
  | 0 => by unfold allW; simp
  | n + 1 => by
    unfold allW
    refine nodup_flat2 (nodup_allW h n) (fun w _ => nodup_app_map h w) fun a b v h1 h2 => ?_
    obtain ⟨c, _, rfl⟩ := List.mem_map.mp h1
    obtain ⟨d, _, e⟩ := List.mem_map.mp h2
    exact (List.append_inj_left' e rfl).symm
/-- the plain words of a length -/
def plains (td : Nat → Nat → Bool) (L : List Nat) (n : Nat) : List (List Nat) := (allW L n).filter fun w => decide (pl td w = w)
def hp (td : Nat → Nat → Bool) (L : List Nat) (n : Nat) : Nat := (plains td L n).length
theorem mem_plains (T : Td td) {L : List Nat} {n : Nat} : w ∈ plains td L n ↔ w.length = n ∧ (∀ a ∈ w, a ∈ L) ∧ Least td w := by
  unfold plains
  rw [List.mem_filter, mem_allW, decide_eq_true_iff, pl_self T]
  exact ⟨fun h => ⟨h.1.1, h.1.2, h.2⟩, fun h => ⟨⟨h.1, h.2.1⟩, h.2.2⟩⟩
theorem nodup_plains {L : List Nat} (h : L.Nodup) (n : Nat) : (plains td L n).Nodup := (nodup_allW h n).filter _
theorem hp_zero {L : List Nat} : hp td L 0 = 1 := by
  unfold hp plains allW
  rw [List.filter_cons, decide_eq_true pl_nil]
  rfl
/-- no two of a crowd are tied -/
def Crowd (td : Nat → Nat → Bool) (C : List Nat) : Prop := C.Nodup ∧ ∀ a ∈ C, ∀ b ∈ C, a ≠ b → td a b = false
theorem Crowd.tail (h : Crowd td (a :: u)) : Crowd td u := ⟨(List.nodup_cons.mp h.1).2, fun b hb c hc => h.2 b (List.mem_cons_of_mem _ hb) c (List.mem_cons_of_mem _ hc)⟩
theorem crowd_fr (T : Td td) (h : Crowd td u) (ha : a ∈ u) : Fr td a (u ++ v) := by
  refine (fr_app T).mpr (.inl ?_)
  obtain ⟨x, y, e, hx⟩ := first_place ha
  refine ⟨x, y, e, fun c hc => ?_⟩
  exact h.2 a ha c (by rw [e]; exact List.mem_append_left _ hc) fun z => hx (z ▸ hc)
/-- a crowd of the front is taken off -/
theorem crowd_off (T : Td td) : ∀ {C w : List Nat}, Crowd td C → (∀ a ∈ C, Fr td a w) → ∃ v, Heq td w (C ++ v)
  | [], w, _, _ => ⟨w, Heq.refl td w⟩
  | c :: C, w, h, hf => by
    have f := hf c List.mem_cons_self
    have hn : c ∉ C := (List.nodup_cons.mp h.1).1
    obtain ⟨v, hv⟩ := crowd_off T (w := w.erase c) h.tail fun a ha => by
      have fa := (hf a (List.mem_cons_of_mem _ ha)).heq T (f.off T)
      rcases (fr_cons T).mp fa with z | z
      · exact absurd (z ▸ ha) hn
      · exact z.2
    exact ⟨v, (f.off T).trans (hv.cons c)⟩
def frB (td : Nat → Nat → Bool) (C w : List Nat) : Bool := C.all fun a => decide (a ∈ firsts td w)
theorem frB_iff (T : Td td) {C : List Nat} : frB td C w = true ↔ ∀ a ∈ C, Fr td a w := by
  unfold frB
  rw [List.all_eq_true]
  constructor
  · intro h a ha
    exact (mem_firsts T).mp (of_decide_eq_true (h a ha))
  · intro h a ha
    exact decide_eq_true ((mem_firsts T).mpr (h a ha))
theorem nodup_map_inj {f : List Nat → List Nat} : ∀ {l : List (List Nat)}, l.Nodup → (∀ x ∈ l, ∀ y ∈ l, f x = f y → x = y) → (l.map f).Nodup
  | [], _, _ => List.nodup_nil
  | x :: l, h, hf => by
    obtain ⟨h1, h2⟩ := List.nodup_cons.mp h
    rw [List.map_cons]
    refine List.nodup_cons.mpr ⟨fun hm => ?_, nodup_map_inj h2 fun y hy z hz => hf y (List.mem_cons_of_mem _ hy) z (List.mem_cons_of_mem _ hz)⟩
    obtain ⟨y, hy, e⟩ := List.mem_map.mp hm
    have := hf y (List.mem_cons_of_mem _ hy) x List.mem_cons_self e
    exact h1 (this ▸ hy)
/-- heaps with a given crowd at the front are as many as heaps that are shorter by it -/
theorem front_count (T : Td td) {L C : List Nat} (hL : L.Nodup) (hC : Crowd td C) (hs : ∀ a ∈ C, a ∈ L) {n : Nat} (hn : C.length ≤ n) :
    ((plains td L n).filter fun w => frB td C w).length = hp td L (n - C.length) := by
  unfold hp
  rw [← List.length_map (as := plains td L (n - C.length)) (f := fun v => pl td (C ++ v))]
  refine len_eq ((nodup_plains hL n).filter _) (nodup_map_inj (nodup_plains hL _) fun x hx y hy e => ?_) fun w => ?_
  · have h := (pl_iff T).mp e
    exact least_one T h.left ((mem_plains T).mp hx).2.2 ((mem_plains T).mp hy).2.2
  · rw [List.mem_filter, mem_plains T, frB_iff T, List.mem_map]
    constructor
    · rintro ⟨⟨h1, h2, h3⟩, h4⟩
      obtain ⟨v, hv⟩ := crowd_off T hC h4
      have hl := hv.len T
      rw [List.length_append] at hl
      refine ⟨pl td v, (mem_plains T).mpr ⟨by rw [pl_len T]; omega, fun a ha => h2 a ((hv.mem T).mpr (List.mem_append_right _ ((pl_mem T).mp ha))), pl_least T v⟩, ?_⟩
      exact pl_eq T (((Heq.refl td C).app (pl_heq T v).symm).trans hv.symm) h3
    · rintro ⟨v, hv, rfl⟩
      obtain ⟨h1, h2, h3⟩ := (mem_plains T).mp hv
      refine ⟨⟨by rw [pl_len T, List.length_append, h1]; omega, fun a ha => ?_, pl_least T _⟩, fun a ha => (crowd_fr T hC ha).heq T (pl_heq T _)⟩
      rcases List.mem_append.mp ((pl_mem T).mp ha) with z | z
      · exact hs a z
      · exact h2 a z
/-! ### signs by turns -/
def sg (n : Nat) : Int := 1 - 2 * ((n % 2 : Nat) : Int)
theorem sg_zero : sg 0 = 1 := rfl
theorem sg_succ (n : Nat) : sg (n + 1) = - sg n := by
  unfold sg
  rcases Nat.mod_two_eq_zero_or_one n with h | h
  · have : (n + 1) % 2 = 1 := by omega
    rw [h, this]; rfl
  · have : (n + 1) % 2 = 0 := by omega
    rw [h, this]; rfl
/-- all choices from a list, in some order -/
def subs : List Nat → List (List Nat)
  | [] => [[]]
  | a :: L => subs L ++ (subs L).map (a :: ·)
def sumI {α : Type} (f : α → Int) : List α → Int
  | [] => 0
  | x :: l => f x + sumI f l
theorem sumI_app {α : Type} (f : α → Int) : ∀ l m : List α, sumI f (l ++ m) = sumI f l + sumI f m
  | [], m => by show _ = 0 + _; rw [Int.zero_add]; rfl
  | x :: l, m => by
    show f x + sumI f (l ++ m) = f x + sumI f l + sumI f m
    rw [sumI_app f l m, Int.add_assoc]
theorem sumI_map {α β : Type} (f : β → Int) (g : α → β) : ∀ l : List α, sumI f (l.map g) = sumI (fun x => f (g x)) l
  | [] => rfl
  | x :: l => by
    show f (g x) + sumI f (l.map g) = f (g x) + sumI (fun x => f (g x)) l
    rw [sumI_map f g l]
theorem sumI_congr {α : Type} {f g : α → Int} : ∀ {l : List α}, (∀ x ∈ l, f x = g x) → sumI f l = sumI g l
  | [], _ => rfl
  | x :: l, h => by
    show f x + sumI f l = g x + sumI g l
    rw [h x List.mem_cons_self, sumI_congr fun y hy => h y (List.mem_cons_of_mem _ hy)]
theorem sumI_add {α : Type} (f g : α → Int) : ∀ l : List α, sumI (fun x => f x + g x) l = sumI f l + sumI g l
  | [] => rfl
  | x :: l => by
    show f x + g x + sumI (fun x => f x + g x) l = f x + sumI f l + (g x + sumI g l)
    rw [sumI_add f g l]
    omega
theorem sumI_neg {α : Type} (f : α → Int) : ∀ l : List α, sumI (fun x => - f x) l = - sumI f l
  | [] => rfl
  | x :: l => by
    show - f x + sumI (fun x => - f x) l = - (f x + sumI f l)
    rw [sumI_neg f l]
    omega
theorem sumI_zero {α : Type} : ∀ l : List α, sumI (fun _ => (0 : Int)) l = 0
  | [] => rfl
  | _ :: l => by show 0 + sumI (fun _ => (0 : Int)) l = 0; rw [sumI_zero l]; rfl
theorem sumI_swap {α β : Type} (f : α → β → Int) : ∀ (l : List α) (m : List β), sumI (fun x => sumI (fun y => f x y) m) l = sumI (fun y => sumI (fun x => f x y) l) m
  | [], m => by
    show (0 : Int) = _
    exact (sumI_zero m).symm
  | x :: l, m => by
    show sumI (fun y => f x y) m + sumI (fun x => sumI (fun y => f x y) m) l = sumI (fun y => f x y + sumI (fun x => f x y) l) m
    rw [sumI_add, sumI_swap f l m]
/-- over all choices from a list that has one of F: nothing is left -/
theorem signs_zero (F : Nat → Bool) : ∀ {L : List Nat}, (∃ a ∈ L, F a = true) → sumI (fun C => if C.all F = true then sg C.length else 0) (subs L) = 0
  | [], h => by obtain ⟨a, ha, _⟩ := h; cases ha
  | a :: L, h => by
    unfold subs
    rw [sumI_app, sumI_map]
    cases hF : F a with
    | true =>
      have : sumI (fun x => if (a :: x).all F = true then sg (a :: x).length else 0) (subs L) = sumI (fun x => - (if x.all F = true then sg x.length else 0)) (subs L) := sumI_congr fun x _ => by
        rw [List.all_cons, hF, Bool.true_and, List.length_cons, sg_succ]
        split
        · rfl
        · rfl
      rw [this, sumI_neg]
      omega
    | false =>
      have : sumI (fun x => if (a :: x).all F = true then sg (a :: x).length else 0) (subs L) = sumI (fun _ => (0 : Int)) (subs L) := sumI_congr fun x _ => by
        rw [List.all_cons, hF, Bool.false_and, if_neg Bool.false_ne_true]
      rw [this, sumI_zero, Int.add_zero]
      obtain ⟨b, hb, hf⟩ := h
      rcases List.mem_cons.mp hb with rfl | z
      · rw [hF] at hf; cases hf
      · exact signs_zero F ⟨b, z, hf⟩
def crowdB (td : Nat → Nat → Bool) (C : List Nat) : Bool := C.all fun a => C.all fun b => decide (a = b) || !td a b
theorem crowdB_iff {C : List Nat} (hn : C.Nodup) : crowdB td C = true ↔ Crowd td C := by
  unfold crowdB Crowd
  rw [List.all_eq_true]
  constructor
  · intro h
    refine ⟨hn, fun a ha b hb ne => ?_⟩
    have := List.all_eq_true.mp (h a ha) b hb
    simpa [ne] using this
  · rintro ⟨_, h⟩ a ha
    rw [List.all_eq_true]
    intro b hb
    by_cases e : a = b
    · simp [e]
    · simp [h a ha b hb e]
theorem subs_sub : ∀ {L C : List Nat}, C ∈ subs L → C.Sublist L
  | [], C, h => by
    unfold subs at h
    rw [List.mem_singleton.mp h]
    exact List.Sublist.refl _
  | a :: L, C, h => by
    unfold subs at h
    rcases List.mem_append.mp h with z | z
    · exact (subs_sub z).cons a
    · obtain ⟨D, hD, rfl⟩ := List.mem_map.mp z
      exact (subs_sub hD).cons_cons a
theorem sub_subs : ∀ {L C : List Nat}, C.Sublist L → C ∈ subs L
  | [], C, h => by
    rw [List.sublist_nil.mp h]
    exact List.mem_cons_self
  | a :: L, C, h => by
    unfold subs
    cases h with
    | cons _ h' => exact List.mem_append_left _ (sub_subs h')
    | cons_cons _ h' => exact List.mem_append_right _ (List.mem_map.mpr ⟨_, sub_subs h', rfl⟩)
theorem sum_filter_len {α : Type} (p : α → Bool) : ∀ l : List α, sumI (fun x => if p x = true then (1 : Int) else 0) l = ((l.filter p).length : Int)
  | [] => rfl
  | x :: l => by
    show (if p x = true then (1 : Int) else 0) + sumI _ l = _
    rw [sum_filter_len p l, List.filter_cons]
    split
    · rw [List.length_cons]; omega
    · omega
theorem nodup_len_le {l m : List Nat} (h : l.Nodup) (k : ∀ x ∈ l, x ∈ m) : l.length ≤ m.length := by
  induction l generalizing m with
  | nil => exact Nat.zero_le _
  | cons x l ih =>
    obtain ⟨n1, n2⟩ := List.nodup_cons.mp h
    have hx := k x List.mem_cons_self
    have i := ih (m := m.erase x) n2 fun y hy => by
      have hne : y ≠ x := fun e => n1 (e ▸ hy)
      exact (List.mem_erase_of_ne hne).mpr (k y (List.mem_cons_of_mem _ hy))
    rw [List.length_erase_of_mem hx] at i
    have : 0 < m.length := List.length_pos_of_mem hx
    rw [List.length_cons]
    omega
/-- HEAPS OF A LENGTH BY CROWDS, with signs by turns -/
theorem by_crowds (T : Td td) {L : List Nat} (hL : L.Nodup) {n : Nat} (hn : 1 ≤ n) :
    sumI (fun C => if crowdB td C = true ∧ C.length ≤ n then sg C.length * (hp td L (n - C.length) : Int) else 0) (subs L) = 0 := by
  have e1 : sumI (fun C => if crowdB td C = true ∧ C.length ≤ n then sg C.length * (hp td L (n - C.length) : Int) else 0) (subs L) =
      sumI (fun C => sumI (fun w => if frB td C w = true then sg C.length else 0) (plains td L n)) (subs L) := by
    refine sumI_congr fun C hC => ?_
    have hs := subs_sub hC
    have hnd : C.Nodup := hL.sublist hs
    have e2 : sumI (fun w => if frB td C w = true then sg C.length else 0) (plains td L n) = sg C.length * (((plains td L n).filter fun w => frB td C w).length : Int) := by
      rw [← sum_filter_len]
      have : ∀ l : List (List Nat), sumI (fun w => if frB td C w = true then sg C.length else 0) l = sg C.length * sumI (fun w => if frB td C w = true then (1 : Int) else 0) l := by
        intro l
        induction l with
        | nil => exact (Int.mul_zero _).symm
        | cons w l ih =>
          show (if frB td C w = true then sg C.length else 0) + sumI _ l = sg C.length * ((if frB td C w = true then (1 : Int) else 0) + sumI _ l)
          rw [ih, Int.mul_add]
          split
          · rw [Int.mul_one]
          · rw [Int.mul_zero]
      exact this _
    rw [e2]
    by_cases h : crowdB td C = true ∧ C.length ≤ n
    · rw [if_pos h, front_count T hL ((crowdB_iff hnd).mp h.1) (fun a ha => hs.subset ha) h.2]
    · rw [if_neg h]
      -- none has it at its front
      have : ((plains td L n).filter fun w => frB td C w) = [] := by
        rw [List.filter_eq_nil_iff]
        intro w hw hf
        have hf' := (frB_iff T).mp hf
        refine h ⟨(crowdB_iff hnd).mpr ⟨hnd, fun a ha b hb ne => fr_two T (hf' a ha) (hf' b hb) ne⟩, ?_⟩
        rw [← ((mem_plains T).mp hw).1]
        exact nodup_len_le hnd fun a ha => (hf' a ha).mem
      rw [this]
      exact (Int.mul_zero _).symm
  rw [e1, sumI_swap]
  have : sumI (fun w => sumI (fun C => if frB td C w = true then sg C.length else 0) (subs L)) (plains td L n) = sumI (fun _ => (0 : Int)) (plains td L n) := sumI_congr fun w hw => by
    obtain ⟨h1, h2, h3⟩ := (mem_plains T).mp hw
    have hne : w ≠ [] := fun z => by rw [z] at h1; rw [← h1] at hn; exact absurd hn (by decide)
    have hm := lst_mem (firsts_ne T hne)
    exact signs_zero (fun a => decide (a ∈ firsts td w)) ⟨lst (firsts td w), h2 _ ((mem_firsts T).mp hm).mem, decide_eq_true hm⟩
  rw [this, sumI_zero]
end
end TR

namespace HW
open PySem L2 PyProof.Rows
/-! ## HT: texts as data, what is told and the same heap -/
/-! ### what is told is data of the common kind -/
theorem strOk_S {l : List Nat} (h : ∀ c ∈ l, c ≤ 122) : PyData.strOk (S l) = true := by
  unfold PyData.strOk
  rw [Array.all_eq_true']
  intro c hc
  have : c ∈ l := by simpa using hc
  have := h c this
  exact decide_eq_true (by omega)
theorem lay_parts {v : List Nat} (hv : ∀ c ∈ v, c ≤ 122) : ∀ {ps : List (List Nat)}, (∀ q ∈ ps, ∀ c ∈ q, c ≤ 122) → PyData.canLayAll0 (ps.map fun q => PyData.tuple [.str (S q), .str (S (HW.only v q))]) = true ∧ PyData.depthAll (ps.map fun q => PyData.tuple [.str (S q), .str (S (HW.only v q))]) ≤ 1
  | [], _ => ⟨rfl, by simp [PyData.depthAll]⟩
  | q :: ps, h => by
    obtain ⟨i1, i2⟩ := lay_parts hv (ps := ps) fun x hx => h x (List.mem_cons_of_mem _ hx)
    have h1 := strOk_S (h q List.mem_cons_self)
    have h2 : PyData.strOk (S (HW.only v q)) = true := strOk_S fun c hc => hv c ((List.mem_filter.mp hc).1)
    rw [List.map_cons]
    constructor
    · simp only [PyData.canLayAll0, PyData.canLay0, h1, h2, i1, Bool.and_self]
    · simp only [PyData.depthAll, PyData.depth] at i2 ⊢
      omega
theorem shaped_told {L : List Nat} {T : List (List Nat)} (G : Ground L T) {v : List Nat} (hv : ∀ c ∈ v, c ∈ L) : SeqAt.shaped (toldD L T v) = true ∧ PyData.canLay0 (toldD L T v) = true := by
  have az : ∀ c ∈ L, c ≤ 122 := fun c hc => (G.le.az c hc).2
  have hp : ∀ q ∈ parts L T, ∀ c ∈ q, c ≤ 122 := fun q hq c hc => by
    unfold parts at hq
    rcases List.mem_append.mp hq with z | z
    · obtain ⟨d, hd, e⟩ := List.mem_map.mp z
      subst e
      have : c = d := by simpa using hc
      exact az c (this ▸ hd)
    · obtain ⟨a, b, e, _, ha, hb⟩ := G.ti q z
      subst e
      rcases List.mem_cons.mp hc with y | y
      · exact az c (y ▸ ha)
      · have : c = b := by simpa using y
        exact az c (this ▸ hb)
  obtain ⟨i1, i2⟩ := lay_parts (v := v) (fun c hc => az c (hv c hc)) hp
  have l0 : PyData.canLay0 (toldD L T v) = true := by
    unfold toldD
    rw [PyData.canLay0]
    exact i1
  refine ⟨?_, l0⟩
  unfold SeqAt.shaped
  rw [l0, Bool.true_and]
  refine decide_eq_true ?_
  unfold toldD
  rw [PyData.depth]
  omega

def tD (q : List Nat) : PyData := .str (S q)
theorem eqv_t (a b : List Nat) : PyData.eqv (tD a) (tD b) = decide (a = b) := by
  show (S a == S b) = _
  by_cases h : a = b
  · subst h; simp
  · rw [decide_eq_false h]
    exact beq_eq_false_iff_ne.mpr fun z => h (S_inj z)
theorem eqvAll_t : ∀ l m : List (List Nat), PyData.eqvAll (l.map tD) (m.map tD) = decide (l = m)
  | [], [] => rfl
  | [], m :: ms => rfl
  | l :: ls, [] => rfl
  | l :: ls, m :: ms => by
    show (PyData.eqv (tD l) (tD m) && PyData.eqvAll (ls.map tD) (ms.map tD)) = _
    rw [eqv_t, eqvAll_t ls ms]
    by_cases h1 : l = m
    · by_cases h2 : ls = ms
      · subst h1 h2; simp
      · simp [h1, h2]
    · simp [h1]
theorem lay_ts : ∀ {l : List (List Nat)}, (∀ q ∈ l, ∀ c ∈ q, c ≤ 122) → PyData.canLayAll0 (l.map tD) = true ∧ PyData.depthAll (l.map tD) ≤ 1
  | [], _ => ⟨rfl, by simp [PyData.depthAll]⟩
  | q :: l, h => by
    obtain ⟨i1, i2⟩ := lay_ts (l := l) fun x hx => h x (List.mem_cons_of_mem _ hx)
    have h1 : PyData.strOk (S q) = true := strOk_S (h q List.mem_cons_self)
    rw [List.map_cons]
    constructor
    · show (PyData.canLay0 (tD q) && PyData.canLayAll0 (l.map tD)) = true
      rw [i1, Bool.and_true]
      exact h1
    · simp only [PyData.depthAll, tD, PyData.depth] at i2 ⊢
      omega
theorem shaped_t {q : List Nat} (h : ∀ c ∈ q, c ≤ 122) : SeqAt.shaped (tD q) = true := by
  unfold SeqAt.shaped
  have h1 : PyData.canLay0 (tD q) = true := strOk_S h
  rw [h1, Bool.true_and]
  exact decide_eq_true (by simp [tD, PyData.depth])
theorem shaped_tup {l : List (List Nat)} (h : ∀ q ∈ l, ∀ c ∈ q, c ≤ 122) : SeqAt.shaped (.tuple (l.map tD)) = true := by
  obtain ⟨i1, i2⟩ := lay_ts h
  unfold SeqAt.shaped
  have h1 : PyData.canLay0 (.tuple (l.map tD)) = true := by rw [PyData.canLay0]; exact i1
  rw [h1, Bool.true_and]
  refine decide_eq_true ?_
  rw [PyData.depth]
  omega
theorem shaped_lst {l : List (List Nat)} (h : ∀ q ∈ l, ∀ c ∈ q, c ≤ 122) : SeqAt.shaped (.list (l.map tD)) = true := by
  obtain ⟨i1, i2⟩ := lay_ts h
  unfold SeqAt.shaped
  have h1 : PyData.canLay0 (.list (l.map tD)) = true := by rw [PyData.canLay0]; exact i1
  rw [h1, Bool.true_and]
  refine decide_eq_true ?_
  rw [PyData.depth]
  omega
theorem dvs_ts {K : PySem.W.Frag} {H : Hp} : ∀ l : List (List Nat), DVs K H (l.map tx) (l.map tD)
  | [] => .nil
  | _ :: l => .cons (.str _) (dvs_ts l)
/-! ### told just the same: the same heap -/
theorem td_ok (T : List (List Nat)) : TR.Td (tiedB T) := by
  refine ⟨fun a => ?_, fun a b => ?_⟩
  · unfold tiedB; simp
  · unfold tiedB
    rw [Nat.min_comm, Nat.max_comm]
    congr 1
    by_cases h : a = b
    · subst h; rfl
    · rw [decide_eq_false h, decide_eq_false fun z => h z.symm]
theorem only_one (w : List Nat) (a : Nat) : only w [a] = TR.pr a a w := by
  unfold only TR.pr
  congr 1
  funext c
  by_cases h : c = a
  · subst h; simp
  · simp [h]
theorem only_two (w : List Nat) (a b : Nat) : only w [a, b] = TR.pr a b w := by
  unfold only TR.pr
  congr 1
  funext c
  by_cases h : c = a
  · subst h; simp
  · by_cases h2 : c = b
    · subst h2; simp
    · simp [h, h2]
theorem told_iff {L : List Nat} {T : List (List Nat)} (G : Ground L T) {u v : List Nat} (hu : ∀ c ∈ u, c ∈ L) (hv : ∀ c ∈ v, c ∈ L) : (∀ q ∈ parts L T, only u q = only v q) ↔ TR.Heq (tiedB T) u v := by
  constructor
  · intro h a b t
    unfold tiedB at t
    rw [Bool.or_eq_true, decide_eq_true_iff, decide_eq_true_iff] at t
    have one : ∀ a, TR.pr a a u = TR.pr a a v := fun a => by
      by_cases ha : a ∈ L
      · rw [← only_one, ← only_one]
        exact h [a] (List.mem_append_left _ (List.mem_map.mpr ⟨a, ha, rfl⟩))
      · rw [TR.pr_nil_of fun c hc => ?_, TR.pr_nil_of fun c hc => ?_]
        · have : c ≠ a := fun z => ha (z ▸ hv c hc)
          exact ⟨this, this⟩
        · have : c ≠ a := fun z => ha (z ▸ hu c hc)
          exact ⟨this, this⟩
    rcases t with rfl | t
    · exact one a
    · have e := h _ (List.mem_append_right _ t)
      rw [only_two, only_two] at e
      rcases Nat.le_total a b with z | z
      · rwa [Nat.min_eq_left z, Nat.max_eq_right z] at e
      · rw [Nat.min_eq_right z, Nat.max_eq_left z] at e
        rw [TR.pr_comm, e, TR.pr_comm]
  · intro h q hq
    rcases List.mem_append.mp hq with z | z
    · obtain ⟨a, _, rfl⟩ := List.mem_map.mp z
      rw [only_one, only_one]
      exact h a a ((td_ok T).r a)
    · obtain ⟨a, b, rfl, hab, _⟩ := G.ti q z
      rw [only_two, only_two]
      refine h a b ?_
      unfold tiedB
      rw [Nat.min_eq_left (Nat.le_of_lt hab), Nat.max_eq_right (Nat.le_of_lt hab), decide_eq_true z, Bool.or_true]
theorem eqv_parts (u v : List Nat) : ∀ ps : List (List Nat), PyData.eqvAll (ps.map fun q => PyData.tuple [.str (S q), .str (S (only u q))]) (ps.map fun q => PyData.tuple [.str (S q), .str (S (only v q))]) = ps.all fun q => decide (only u q = only v q)
  | [] => rfl
  | q :: ps => by
    show (PyData.eqv (.tuple [tD q, tD (only u q)]) (.tuple [tD q, tD (only v q)]) && PyData.eqvAll _ _) = _
    rw [List.all_cons, eqv_parts u v ps]
    congr 1
    show (PyData.eqv (tD q) (tD q) && (PyData.eqv (tD (only u q)) (tD (only v q)) && true)) = _
    rw [eqv_t, eqv_t, decide_eq_true rfl, Bool.true_and, Bool.and_true]
theorem eqv_told {L : List Nat} {T : List (List Nat)} (G : Ground L T) {u v : List Nat} (hu : ∀ c ∈ u, c ∈ L) (hv : ∀ c ∈ v, c ∈ L) : PyData.eqv (toldD L T u) (toldD L T v) = true ↔ TR.Heq (tiedB T) u v := by
  rw [← told_iff G hu hv]
  show PyData.eqvAll _ _ = true ↔ _
  rw [eqv_parts, List.all_eq_true]
  constructor
  · intro h q hq
    exact of_decide_eq_true (h q hq)
  · intro h q hq
    exact decide_eq_true (h q hq)
/-! ### sorted signs -/
theorem sorted_any {fd : List Nat} {ss' : List Str} (hp : ss'.Perm (fd.map fun c => S [c])) (hs : sortedS ss' = true) : ∃ L : List Nat, ss' = (L.map fun c => S [c]) ∧ L.Perm fd ∧ L.Pairwise (· ≤ ·) := by
  have hm : ∀ x ∈ ss', x = S [x.cps.toList.headD 0] := fun x hx => by
    obtain ⟨c, _, e⟩ := List.mem_map.mp (hp.mem_iff.mp hx)
    rw [← e]
    rfl
  have e : ss' = ((ss'.map fun x => x.cps.toList.headD 0).map fun c => S [c]) := by
    rw [List.map_map]
    have q : ss'.map (fun x => x) = ss'.map ((fun c => S [c]) ∘ fun x => x.cps.toList.headD 0) := List.map_congr_left hm
    rw [List.map_id'] at q
    exact q
  have hp2 : (ss'.map fun x => x.cps.toList.headD 0).Perm fd := by
    have q := hp.map fun x : Str => x.cps.toList.headD 0
    rw [List.map_map] at q
    have : (fd.map ((fun x : Str => x.cps.toList.headD 0) ∘ fun c => S [c])) = fd := by
      have : ((fun x : Str => x.cps.toList.headD 0) ∘ fun c => S [c]) = id := by funext c; rfl
      rw [this, List.map_id]
    rw [this] at q
    exact q
  refine ⟨_, e, hp2, ?_⟩
  rw [e] at hs
  exact sortedS_codes _ hs
theorem sorted_eq {l m : List Nat} (hl : l.Pairwise (· ≤ ·)) (hm : m.Pairwise (· ≤ ·)) (h : l.Perm m) : l = m := h.eq_of_pairwise (fun a b _ _ h1 h2 => Nat.le_antisymm h1 h2) hl hm
theorem signs_tD (l : List Nat) : (l.map fun c => PyData.str ⟨#[c]⟩) = (l.map fun c => [c]).map tD := by rw [List.map_map]; rfl
theorem az_le {L : List Nat} (h : Letters L) {w : List Nat} (hw : ∀ c ∈ w, c ∈ L) : ∀ c ∈ w, c ≤ 122 := fun c hc => (h.az c (hw c hc)).2
theorem getI_map {α β : Type} {l : List α} {f : α → β} {i : Nat} {x : β} {a : α} (hx : (l.map f)[i]? = some x) (ha : l[i]? = some a) : x = f a := by
  rw [List.getElem?_map, ha] at hx
  exact (Option.some.inj hx).symm
theorem slice_mid (l : List Nat) {i j : Nat} (h1 : i ≤ j) (h2 : j ≤ l.length) : Txt.slice (S l) (some (i : Int)) (some (j : Int)) = S ((l.drop i).take (j - i)) := by
  have hl : (S l).length = l.length := S_len l
  have e := beq_iff_eq.mp (slice_closesL (x := S l) (i := (i : Int)) (j := (j : Int)) (by omega) (by omega) (by omega))
  rw [e, S_cps]
  have e1 : ((i : Int)).toNat = i := by omega
  have e2 : ((j : Int) - (i : Int)).toNat = j - i := by omega
  rw [e1, e2]
theorem lt_ch (a b : Nat) : decide ((S [a]).cps.toList < (S [b]).cps.toList) = decide (a < b) := by
  rw [S_cps, S_cps]
  by_cases h : a < b
  · rw [decide_eq_true h]
    exact decide_eq_true (List.Lex.rel h)
  · rw [decide_eq_false h]
    refine decide_eq_false fun z => ?_
    cases z with
    | rel y => exact h y
    | cons y => cases y
/-! ### the least word, place by place -/
def OkAt (td : Nat → Nat → Bool) (w : List Nat) (j k : Nat) : Prop := ∀ a b, w[j]? = some a → w[k]? = some b → a < b → ∃ c ∈ (w.drop k).take (j - k), td c a = true
theorem least_iff {td : Nat → Nat → Bool} {w : List Nat} : TR.Least td w ↔ ∀ j k, j < w.length → k < j → OkAt td w j k := by
  constructor
  · intro h j k hj hk a b ha hb hab
    have hkl : k < w.length := by omega
    have e1 : w = w.take k ++ b :: w.drop (k + 1) := by
      have e := (List.take_append_drop k w).symm
      rw [List.drop_eq_getElem_cons hkl] at e
      rw [List.getElem?_eq_getElem hkl] at hb
      rw [Option.some.inj hb] at e
      exact e
    have hj2 : j - (k + 1) < (w.drop (k + 1)).length := by rw [List.length_drop]; omega
    have ha2 : (w.drop (k + 1))[j - (k + 1)]? = some a := by
      rw [List.getElem?_drop]
      have : k + 1 + (j - (k + 1)) = j := by omega
      rw [this]
      exact ha
    have e2 : w.drop (k + 1) = (w.drop (k + 1)).take (j - (k + 1)) ++ a :: (w.drop (k + 1)).drop (j - (k + 1) + 1) := by
      have e := (List.take_append_drop (j - (k + 1)) (w.drop (k + 1))).symm
      rw [List.drop_eq_getElem_cons hj2] at e
      rw [List.getElem?_eq_getElem hj2] at ha2
      rw [Option.some.inj ha2] at e
      exact e
    have e3 : w = w.take k ++ b :: (w.drop (k + 1)).take (j - (k + 1)) ++ a :: (w.drop (k + 1)).drop (j - (k + 1) + 1) := by
      rw [List.append_assoc, List.cons_append, ← e2]
      exact e1
    obtain ⟨c, hc, ht⟩ := h _ b _ a _ e3 hab
    refine ⟨c, ?_, ht⟩
    have hjk : j - k = (j - (k + 1)) + 1 := by omega
    have : (w.drop k).take (j - k) = b :: (w.drop (k + 1)).take (j - (k + 1)) := by
      rw [List.drop_eq_getElem_cons hkl, hjk, List.take_succ_cons]
      rw [List.getElem?_eq_getElem hkl] at hb
      rw [Option.some.inj hb]
    rw [this]
    exact hc
  · intro h x b y a z e hab
    have hj : x.length + (y.length + 1) < w.length := by rw [e, List.append_assoc, List.length_append, List.cons_append, List.length_cons, List.length_append, List.length_cons]; omega
    have ha : w[x.length + (y.length + 1)]? = some a := by
      rw [e]
      rw [List.getElem?_append_right (by simp)]
      simp
    have hb : w[x.length]? = some b := by
      rw [e, List.append_assoc, List.getElem?_append_right (Nat.le_refl _)]
      simp
    obtain ⟨c, hc, ht⟩ := h _ _ hj (by omega) a b ha hb hab
    refine ⟨c, ?_, ht⟩
    have : (w.drop x.length).take (x.length + (y.length + 1) - x.length) = b :: y := by
      rw [e, List.append_assoc, List.drop_left]
      have : x.length + (y.length + 1) - x.length = (b :: y).length := by simp
      rw [this, List.take_left]
    rw [this] at hc
    exact hc
end HW

namespace HW
open PySem L2 PyProof.Rows
/-! ## LT: promises of what is told, and their words -/
theorem e_empty : (Str.ofString "" : Str) = S [] := by decide +kernel
def spTied : Sp := fun vs H Q _ => ∃ (g : Addr) (L : List Nat) (T : List (List Nat)) (a b : Nat), vs = [.ref g, chV a, chV b] ∧ Ground L T ∧ GAt H g L T ∧ Q (.bl (tiedB T a b)) H
def spOnly : Sp := fun vs H Q _ => ∃ (v l : List Nat), vs = [tx v, tx l] ∧ v.length ≤ 1000 ∧ ∀ H', Same H H' → Q (tx (HW.only v l)) H'
def spTold (K : PySem.W.Frag) : Sp := fun vs H Q _ => ∃ (g : Addr) (L : List Nat) (T : List (List Nat)) (v : List Nat), vs = [.ref g, tx v] ∧ Ground L T ∧ GAt H g L T ∧ v.length ≤ 1000 ∧
  ∀ p xs H', Same H H' → H' p = some (.tup xs) → DV K H' (.ref p) (toldD L T v) → Q (.ref p) H'
theorem ch_dec (a b : Nat) : decide (chV a = chV b) = decide (a = b) := by
  by_cases e : a = b
  · subst e; simp
  · rw [decide_eq_false e]
    refine decide_eq_false fun z => e ?_
    have z1 : S [a] = S [b] := V.str.inj z
    have := S_inj z1
    simpa using this
/-- a part, and what is left of a word by it -/
def RelP (v : List Nat) (x y : V) (H : Hp) : Prop := ∃ q p, x = tx q ∧ y = .ref p ∧ H p = some (.tup [tx q, tx (HW.only v q)])
theorem relP_mono (v : List Nat) : ∀ x y H H', RelP v x y H → (∀ b ys, H b = some (.tup ys) → H' b = some (.tup ys)) → RelP v x y H' := by
  rintro x y H H' ⟨q, p, e1, e2, h⟩ k
  exact ⟨q, p, e1, e2, k p _ h⟩
theorem dvs_parts {K : PySem.W.Frag} {H : Hp} {v : List Nat} : ∀ {ps : List (List Nat)} {ys : List V}, Paired (fun x y => RelP v x y H) (ps.map tx) ys → DVs K H ys (ps.map fun q => PyData.tuple [.str (S q), .str (S (HW.only v q))])
  | [], ys, h => by
    rw [List.map_nil] at h
    cases h
    exact .nil
  | q :: ps, ys, h => by
    rw [List.map_cons] at h
    cases h with
    | cons r t =>
      obtain ⟨q', p, e1, e2, hp⟩ := r
      have e : q = q' := S_inj (V.str.inj e1)
      subst e
      subst e2
      exact .cons (.tup (SqT.of hp) (.cons (.str _) (.cons (.str _) .nil))) (dvs_parts t)
theorem min_ch (a b : Nat) : (if (S [b]).cps.toList < (S [a]).cps.toList then S [b] else S [a]) = S [min a b] := by
  rw [S_cps, S_cps]
  by_cases h : b < a
  · rw [if_pos (show ([b] : List Nat) < [a] from List.Lex.rel h)]
    have : min a b = b := by omega
    rw [this]
  · have hn : ¬ ([b] : List Nat) < [a] := fun z => by
      cases z with
      | rel y => exact h y
      | cons y => cases y
    rw [if_neg hn]
    have : min a b = a := by omega
    rw [this]
theorem max_ch (a b : Nat) : (if (S [a]).cps.toList < (S [b]).cps.toList then S [b] else S [a]) = S [max a b] := by
  rw [S_cps, S_cps]
  by_cases h : a < b
  · rw [if_pos (show ([a] : List Nat) < [b] from List.Lex.rel h)]
    have : max a b = b := by omega
    rw [this]
  · have hn : ¬ ([a] : List Nat) < [b] := fun z => by
      cases z with
      | rel y => exact h y
      | cons y => cases y
    rw [if_neg hn]
    have : max a b = a := by omega
    rw [this]
theorem left_read {J : It} {v l : List Nat} {H1 : Hp} {D : Addr} {Q : VK} {σ : L2.St} {fr : List Nat} {tt : TT} {te : TE} (Y : Yields J (v.map chV) H1) (hD : H1 D = none) (hv : v.length ≤ 1000)
    (ht : ∀ c H' (Qb : Bool → Hp → Prop), Qb (decide (c ∈ l)) H' → tt (some (chV c) :: fr.map fun i => (σ[i]?).join) H' Qb) (he : ∀ c H' (Qv : VK), Qv (chV c) H' → te (some (chV c) :: fr.map fun i => (σ[i]?).join) H' Qv)
    (hQ : ∀ H', Same H1 H' → H' D = some (.lst (((HW.only v l).map fun c => S [c]).map V.str)) → Q (.ref D) H') :
    CompW J 1 fr (gName 0) tt te σ H1 D Q := by
  have isC : ∀ (i : Nat) x, (v.map chV)[i]? = some x → ∃ c, x = chV c := fun i x hx => by
    rw [List.getElem?_map] at hx
    cases e : v[i]? with
    | none => rw [e] at hx; cases hx
    | some c => rw [e] at hx; exact ⟨c, (Option.some.inj hx).symm⟩
  refine comp_map Y hD (by rw [List.length_map]; exact small (by omega)) (fun x => match x with | .str z => decide (z.cps.toList.headD 0 ∈ l) | _ => false) (fun x => x) (fun i x H' Qb hx sm k => ?_) (fun i x H' Qv hx _ sm k => ?_) fun H' sm hd => hQ H' sm ?_
  · obtain ⟨c, rfl⟩ := isC i x hx
    exact ht c H' Qb (k H' (Same.refl _))
  · obtain ⟨c, rfl⟩ := isC i x hx
    exact he c H' Qv (k H' (Same.refl _))
  · rw [hd]
    congr 2
    have : ∀ v : List Nat, ((v.map chV).filter fun x => match x with | .str z => decide (z.cps.toList.headD 0 ∈ l) | _ => false) = ((HW.only v l).map fun c => S [c]).map V.str := by
      intro v
      unfold HW.only
      induction v with
      | nil => rfl
      | cons c v ih =>
        rw [List.map_cons, List.filter_cons, List.filter_cons]
        have e : (match chV c with | .str z => decide (z.cps.toList.headD 0 ∈ l) | _ => false) = decide (c ∈ l) := rfl
        rw [e, ih]
        cases decide (c ∈ l) <;> rfl
    rw [this]
    exact (List.map_id' _)
theorem only_le (v l : List Nat) : (HW.only v l).length ≤ v.length := List.length_filter_le _ _
theorem parts_map (L : List Nat) (T : List (List Nat)) : signsV (S L) ++ T.map tx = (parts L T).map tx := by
  rw [signsV_S]
  unfold parts
  rw [List.map_append, List.map_map]
  rfl
theorem parts_len {L : List Nat} {T : List (List Nat)} (G : Ground L T) : (parts L T).length ≤ 30 := by
  unfold parts
  rw [List.length_append, List.length_map]
  have := G.le.l5
  have := G.tl
  omega
end HW

namespace HW
open PySem L2 PyProof.Rows
/-! ## LL: what the law draws -/
theorem e_abc : (Str.ofString "abcdefghijklmnopqrstuvwxyz" : Str) = S abc := by decide +kernel
def spCell (K : PySem.W.Frag) : Sp := fun vs H Q _ => ∃ (a : Addr) (ns : List Int) (k : Int), vs = [.ref a, .int k] ∧ SqL K H a (ns.map V.int) ∧ 0 ≤ k ∧ Q (.int ((ns[k.toNat]?).getD 0)) H
def spMix : Sp := fun vs H Q _ => ∃ c p n : Int, vs = [.int c, .int p, .int n] ∧ 0 < p ∧ 0 < n ∧ Q (.int (c * 48271 % p % n)) H
def spLetters (K : PySem.W.Frag) : Sp := fun vs H Q _ => ∃ (a : Addr) (ns : List Int), vs = [.ref a] ∧ SqL K H a (ns.map V.int) ∧ ∀ L H', Same H H' → 1 ≤ H'.clk → Letters L → Q (tx L) H'
def spGround (K : PySem.W.Frag) : Sp := fun vs H Q _ => ∃ (a : Addr) (ns : List Int), vs = [.ref a] ∧ SqL K H a (ns.map V.int) ∧ ∀ L T g H', Same H H' → Ground L T → GAt H' g L T → Q (.ref g) H'
def spWord : Sp := fun vs H Q _ => ∃ (L : List Nat) (seed most : Int), vs = [tx L, .int seed, .int most] ∧ 1 ≤ L.length ∧ L.length ≤ 1000 ∧ 0 ≤ most ∧ most ≤ 1000 ∧ ∀ w H', Same H H' → (∀ c ∈ w, c ∈ L) → (w.length : Int) ≤ most → Q (tx w) H'

theorem erase_map {α β : Type} (f : α → β) : ∀ (l : List α) (k : Nat), (l.map f).eraseIdx k = (l.eraseIdx k).map f
  | [], _ => rfl
  | _ :: _, 0 => rfl
  | x :: l, k + 1 => by rw [List.map_cons, List.eraseIdx_cons_succ, List.eraseIdx_cons_succ, List.map_cons, erase_map f l k]
theorem mix_bounds (c p n : Int) (hn : 0 < n) : 0 ≤ c * 48271 % p % n ∧ c * 48271 % p % n < n := ⟨Int.emod_nonneg _ (by omega), Int.emod_lt_of_pos _ hn⟩
theorem lt_pair {a b c d : Nat} (h : a < c ∨ (a = c ∧ b < d)) : ([a, b] : List Nat) < [c, d] := by
  rcases h with h | ⟨h1, h2⟩
  · exact List.Lex.rel h
  · subst h1
    exact List.Lex.cons (List.Lex.rel h2)
theorem before {L : List Nat} (up : L.Pairwise (· < ·)) {k : Nat} {c : Nat} (hc : L[k]? = some c) : (∀ a ∈ L.take k, a < c) ∧ ∀ b ∈ L.drop (k + 1), c < b := by
  have hk : k < L.length := (List.getElem?_eq_some_iff.mp hc).1
  have e : L = L.take k ++ (c :: L.drop (k + 1)) := by
    have e1 := (List.take_append_drop k L).symm
    rw [List.drop_eq_getElem_cons hk] at e1
    have e2 : L[k] = c := (List.getElem?_eq_some_iff.mp hc).2
    rw [e2] at e1
    exact e1
  rw [e, List.pairwise_append] at up
  obtain ⟨_, h2, h3⟩ := up
  exact ⟨fun a ha => h3 a ha c List.mem_cons_self, (List.pairwise_cons.mp h2).1⟩
/-- the ties that are found so far: their first letters stand ahead of the k-th, or are the k-th and their second ones are among the first n behind it -/
structure Sofar (L : List Nat) (k n : Nat) (T : List (List Nat)) : Prop where
  ti : ∀ q ∈ T, ∃ a b, q = [a, b] ∧ a < b ∧ b ∈ L ∧ (a ∈ L.take k ∨ (L[k]? = some a ∧ b ∈ (L.drop (k + 1)).take n))
  tu : T.Pairwise (· < ·)
  tl : T.length ≤ 5 * k + n
theorem Sofar.more {L : List Nat} {k n : Nat} {T : List (List Nat)} (h : Sofar L k n T) : Sofar L k (n + 1) T :=
  ⟨fun q hq => by
    obtain ⟨a, b, e, h1, h2, h3⟩ := h.ti q hq
    refine ⟨a, b, e, h1, h2, h3.imp id fun z => ⟨z.1, ?_⟩⟩
    exact (List.take_sublist_take_left (Nat.le_succ n)).subset z.2, h.tu, by have := h.tl; omega⟩
theorem Sofar.next {L : List Nat} {k n : Nat} {T : List (List Nat)} (h : Sofar L k n T) (hn : n ≤ 5) (hk : k < L.length) : Sofar L (k + 1) 0 T :=
  ⟨fun q hq => by
    obtain ⟨a, b, e, h1, h2, h3⟩ := h.ti q hq
    refine ⟨a, b, e, h1, h2, .inl ?_⟩
    rcases h3 with z | z
    · exact (List.take_sublist_take_left (Nat.le_succ k)).subset z
    · rw [List.take_add_one, z.1]
      exact List.mem_append_right _ (by simp), h.tu, by have := h.tl; omega⟩
theorem Sofar.add {L : List Nat} {k n : Nat} {T : List (List Nat)} (up : L.Pairwise (· < ·)) (h : Sofar L k n T) {c d : Nat} (hc : L[k]? = some c) (hd : (L.drop (k + 1))[n]? = some d) : Sofar L k (n + 1) (T ++ [[c, d]]) := by
  obtain ⟨b1, b2⟩ := before up hc
  have hdm : d ∈ L.drop (k + 1) := List.mem_of_getElem? hd
  have up2 : (L.drop (k + 1)).Pairwise (· < ·) := up.sublist (List.drop_sublist _ _)
  obtain ⟨c1, _⟩ := before up2 hd
  refine ⟨fun q hq => ?_, ?_, ?_⟩
  · rcases List.mem_append.mp hq with z | z
    · exact h.more.ti q z
    · have e : q = [c, d] := by simpa using z
      refine ⟨c, d, e, b2 d hdm, List.mem_of_mem_drop hdm, .inr ⟨hc, ?_⟩⟩
      rw [List.take_add_one, hd]
      exact List.mem_append_right _ (by simp)
  · rw [List.pairwise_append]
    refine ⟨h.tu, List.pairwise_singleton _ _, fun q hq z hz => ?_⟩
    have e : z = [c, d] := by simpa using hz
    obtain ⟨a, b, e1, h1, h2, h3⟩ := h.ti q hq
    rw [e, e1]
    rcases h3 with y | y
    · exact lt_pair (.inl (b1 a y))
    · have e2 : a = c := Option.some.inj (y.1.symm.trans hc)
      exact lt_pair (.inr ⟨e2, c1 b y.2⟩)
  · rw [List.length_append]
    have := h.tl
    show T.length + 1 ≤ _
    omega
end HW

namespace HW
open PySem L2 PyProof.Rows
/-! ## PC: what the program's defs promise (whatever their text is) -/
def spLaw (K : PySem.W.Frag) : Sp := fun vs H Q _ => ∃ (a : Addr) (ns : List Int), vs = [.ref a] ∧ SqL K H a (ns.map V.int) ∧ ns.length ≤ 63 ∧ ∀ H', Q (.bl true) H'
def spPlain : Sp := fun vs H Q _ => ∃ (g : Addr) (L : List Nat) (T : List (List Nat)) (w : List Nat), vs = [.ref g, tx w] ∧ Ground L T ∧ GAt H g L T ∧ (∀ c ∈ w, c ∈ L) ∧ w.length ≤ 60 ∧ ∀ H', Same H H' → Q (tx (TR.pl (tiedB T) w)) H'
theorem tx_dec (a b : List Nat) : decide (tx a = tx b) = decide (a = b) := by
  by_cases h : a = b
  · subst h; simp
  · rw [decide_eq_false h]
    exact decide_eq_false fun z => h (S_inj (V.str.inj z))
theorem iteNT {A B : Prop} {a b : List Nat} (h : a = b) (hB : B) : if (!decide (tx a = tx b)) = true then A else B := by
  subst h
  exact iteNS rfl hB
end HW
namespace HW
open PySem L2 PyProof.Rows
def spAlike : Sp := fun vs H Q _ => ∃ (g : Addr) (L : List Nat) (T : List (List Nat)) (u v : List Nat), vs = [.ref g, tx u, tx v] ∧ Ground L T ∧ GAt H g L T ∧ (∀ c ∈ u, c ∈ L) ∧ (∀ c ∈ v, c ∈ L) ∧ u.length ≤ 60 ∧ v.length ≤ 60 ∧
  ∀ H' b, Same H H' → (b = true ↔ TR.Heq (tiedB T) u v) → Q (.bl b) H'
def spLayers : Sp := fun vs H Q _ => ∃ (g : Addr) (L : List Nat) (T : List (List Nat)) (w : List Nat), vs = [.ref g, tx w] ∧ Ground L T ∧ GAt H g L T ∧ (∀ c ∈ w, c ∈ L) ∧ w.length ≤ 60 ∧
  ∀ p ls H', Same H H' → H' p = some (.tup (ls.map tx)) → TR.Layers (tiedB T) ls → TR.Heq (tiedB T) w ls.flatten → Q (.ref p) H'
/-- two truths that hold together -/
theorem iteNB {A B : Prop} {a b : Bool} (h : a = b) (hB : B) : if (!decide (V.bl a = V.bl b)) = true then A else B := by
  subst h
  exact iteNS rfl hB
theorem bool_iff {a b : Bool} {P : Prop} (h1 : a = true ↔ P) (h2 : b = true ↔ P) : a = b := by
  rw [Bool.eq_iff_iff, h1, h2]
theorem layers_le {td : Nat → Nat → Bool} {ls : List (List Nat)} {L w : List Nat} (Td : TR.Td td) (h : TR.Heq td w ls.flatten) (hw : ∀ c ∈ w, c ∈ L) : ∀ q ∈ ls, ∀ c ∈ q, c ∈ L := fun q hq c hc => hw c ((h.mem Td).mpr (List.mem_flatten.mpr ⟨q, hq, hc⟩))
end HW
namespace HW
open PySem L2 PyProof.Rows
/-- the letters of the front, rising -/
def spFront : Sp := fun vs H Q _ => ∃ (g : Addr) (L : List Nat) (T : List (List Nat)) (w : List Nat), vs = [.ref g, tx w] ∧ Ground L T ∧ GAt H g L T ∧ (∀ c ∈ w, c ∈ L) ∧ w.length ≤ 60 ∧
  ∀ F H', Same H H' → F.Pairwise (· < ·) → (∀ a, a ∈ F ↔ TR.Fr (tiedB T) a w) → Q (tx F) H'
/-- a letter with a token that was drawn -/
abbrev oV (n c : Nat) : V := .old (S [c]) 1 n
/-- taken, where the letter is at the front -/
def spTaken : Sp := fun vs H Q _ => ∃ (g : Addr) (L : List Nat) (T : List (List Nat)) (w : List Nat) (c n : Nat), vs = [.ref g, tx w, oV n c] ∧ n ≤ H.clk ∧ Ground L T ∧ GAt H g L T ∧ (∀ c ∈ w, c ∈ L) ∧ w.length ≤ 60 ∧ TR.Fr (tiedB T) c w ∧
  ∀ H', Same H H' → Q (tx (TR.pl (tiedB T) (w.erase c))) H'
theorem front_le {td : Nat → Nat → Bool} {F w : List Nat} (up : F.Pairwise (· < ·)) (hF : ∀ a, a ∈ F ↔ TR.Fr td a w) : F.length ≤ w.length :=
  TR.nodup_len_le (up.imp fun h => Nat.ne_of_lt h) fun a ha => ((hF a).mp ha).mem
end HW
namespace HW
open PySem L2 PyProof.Rows
def spBegins : Sp := fun vs H Q _ => ∃ (g : Addr) (L : List Nat) (T : List (List Nat)) (u w : List Nat), vs = [.ref g, tx u, tx w] ∧ Ground L T ∧ GAt H g L T ∧ (∀ c ∈ u, c ∈ L) ∧ (∀ c ∈ w, c ∈ L) ∧ u.length ≤ 60 ∧ w.length ≤ 60 ∧
  ∀ H' b, Same H H' → (b = true ↔ TR.Beg (tiedB T) u w) → Q (.bl b) H'
/-- left, where one is a beginning -/
def spLeft : Sp := fun vs H Q _ => ∃ (g : Addr) (L : List Nat) (T : List (List Nat)) (u w : List Nat), vs = [.ref g, tx u, tx w] ∧ Ground L T ∧ GAt H g L T ∧ (∀ c ∈ u, c ∈ L) ∧ (∀ c ∈ w, c ∈ L) ∧ u.length ≤ 60 ∧ w.length ≤ 60 ∧ TR.Beg (tiedB T) u w ∧
  ∀ z H', Same H H' → TR.Least (tiedB T) z → TR.Heq (tiedB T) (u ++ z) w → Q (tx z) H'
/-- c is the greatest common beginning -/
structure Com (td : Nat → Nat → Bool) (u v c : List Nat) : Prop where
  le : TR.Least td c
  ex : ∃ x y, TR.Heq td (c ++ x) u ∧ TR.Heq td (c ++ y) v ∧ TR.Dis td x y
theorem Com.max {td : Nat → Nat → Bool} (Td : TR.Td td) {u v c d : List Nat} (h : Com td u v c) (h1 : TR.Beg td d u) (h2 : TR.Beg td d v) : TR.Beg td d c := by
  obtain ⟨x, y, hx, hy, di⟩ := h.ex
  exact TR.common_max Td hx hy di h1 h2
theorem Com.beg {td : Nat → Nat → Bool} {u v c : List Nat} (h : Com td u v c) : TR.Beg td c u ∧ TR.Beg td c v := by
  obtain ⟨x, y, hx, hy, _⟩ := h.ex
  exact ⟨⟨x, hx⟩, ⟨y, hy⟩⟩
theorem Com.swap {td : Nat → Nat → Bool} (Td : TR.Td td) {u v c d : List Nat} (h : Com td u v c) (k : Com td v u d) : d = c :=
  TR.least_one Td ((h.max Td k.beg.2 k.beg.1).anti Td (k.max Td h.beg.2 h.beg.1)) k.le h.le
def spCommon : Sp := fun vs H Q _ => ∃ (g : Addr) (L : List Nat) (T : List (List Nat)) (u v : List Nat), vs = [.ref g, tx u, tx v] ∧ Ground L T ∧ GAt H g L T ∧ (∀ c ∈ u, c ∈ L) ∧ (∀ c ∈ v, c ∈ L) ∧ u.length ≤ 60 ∧ v.length ≤ 60 ∧
  ∀ c H', Same H H' → Com (tiedB T) u v c → Q (tx c) H'
theorem Beg_mem {td : Nat → Nat → Bool} (Td : TR.Td td) {c u L : List Nat} (h : TR.Beg td c u) (hu : ∀ d ∈ u, d ∈ L) : ∀ d ∈ c, d ∈ L := fun d hd => by
  obtain ⟨z, hz⟩ := h
  exact hu d ((hz.mem Td).mp (List.mem_append_left _ hd))
theorem Beg_len {td : Nat → Nat → Bool} (Td : TR.Td td) {c u : List Nat} (h : TR.Beg td c u) : c.length ≤ u.length := by
  obtain ⟨z, hz⟩ := h
  have := hz.len Td
  rw [List.length_append] at this
  omega
theorem left_mem {td : Nat → Nat → Bool} (Td : TR.Td td) {c z u L : List Nat} (h : TR.Heq td (c ++ z) u) (hu : ∀ d ∈ u, d ∈ L) : (∀ d ∈ z, d ∈ L) ∧ z.length ≤ u.length :=
  ⟨fun d hd => hu d ((h.mem Td).mp (List.mem_append_right _ hd)), by have := h.len Td; rw [List.length_append] at this; omega⟩
end HW
namespace HW
open PySem L2 PyProof.Rows
def spCount : Sp := fun vs H Q _ => ∃ (g : Addr) (L : List Nat) (T : List (List Nat)) (w : List Nat), vs = [.ref g, tx w] ∧ Ground L T ∧ GAt H g L T ∧ (∀ c ∈ w, c ∈ L) ∧ w.length ≤ 12 ∧
  ∀ H', Same H H' → Q (.int (TR.cnt (tiedB T) w : Nat)) H'
theorem iteNI {A B : Prop} {a b : Int} (h : a = b) (hB : B) : if (!decide (V.int a = V.int b)) = true then A else B := by
  subst h
  exact iteNS rfl hB
theorem Sofar.adds {L : List Nat} {k : Nat} {T : List (List Nat)} (up : L.Pairwise (· < ·)) (h : Sofar L k 0 T) {c : Nat} (hc : L[k]? = some c) : ∀ n, n ≤ (L.drop (k + 1)).length → Sofar L k n (T ++ ((L.drop (k + 1)).take n).map fun d => [c, d])
  | 0, _ => by rw [List.take_zero, List.map_nil, List.append_nil]; exact h
  | n + 1, hn => by
    have i := Sofar.adds up h hc n (by omega)
    have hd : (L.drop (k + 1))[n]? = some (L.drop (k + 1))[n] := List.getElem?_eq_getElem (by omega)
    have j := i.add up hc hd
    rw [List.take_add_one, hd, List.map_append, ← List.append_assoc]
    exact j
theorem ground_none {L : List Nat} (h : Letters L) : Ground L [] := ⟨h, fun _ z => (nomatch z), List.Pairwise.nil, Nat.zero_le _⟩
theorem tied_none : tiedB [] = TR.loose := by
  funext a b
  unfold tiedB TR.loose
  by_cases h : a = b
  · subst h; simp
  · simp [h]
theorem front_sum {td : Nat → Nat → Bool} (Td : TR.Td td) {F w : List Nat} (up : F.Pairwise (· < ·)) (hF : ∀ a, a ∈ F ↔ TR.Fr td a w) (hw : w ≠ []) : (F.map fun a => TR.cnt td (w.erase a)).sum = TR.cnt td w := by
  have hp : F.Perm (TR.firsts td w) := (List.perm_ext_iff_of_nodup (up.imp fun h => Nat.ne_of_lt h) (TR.nodup_firsts Td w)).mpr fun a => by rw [hF, TR.mem_firsts Td]
  rw [TR.cnt_rec Td hw, (hp.map fun a => TR.cnt td (w.erase a)).sum_nat]
end HW
namespace HW
open PySem L2 PyProof.Rows
theorem frs_snoc' (td : Nat → Nat → Bool) : ∀ (p w : List Nat) (a : Nat), TR.frs td p (w ++ [a]) = TR.frs td p w ++ if (p ++ w).all (fun c => !td a c) = true then [a] else []
  | p, [], a => by
    rw [List.nil_append, List.append_nil]
    show (if _ then a :: TR.frs td (p ++ [a]) [] else TR.frs td (p ++ [a]) []) = _
    split <;> rfl
  | p, b :: w, a => by
    rw [List.cons_append]
    show (if _ then b :: TR.frs td (p ++ [b]) (w ++ [a]) else TR.frs td (p ++ [b]) (w ++ [a])) = (if _ then b :: TR.frs td (p ++ [b]) w else TR.frs td (p ++ [b]) w) ++ _
    rw [frs_snoc' td (p ++ [b]) w a]
    have e : p ++ [b] ++ w = p ++ b :: w := by simp
    rw [e]
    split <;> rfl
/-- the front by places -/
theorem firsts_range (td : Nat → Nat → Bool) (w : List Nat) : ∀ i, i ≤ w.length → TR.firsts td (w.take i) = ((List.range i).filter fun k => (w.take k).all fun c => !td (w.getD k 0) c).map fun k => w.getD k 0
  | 0, _ => by rw [List.take_zero]; rfl
  | i + 1, h => by
    have hi : i < w.length := by omega
    have e : w[i]? = some (w.getD i 0) := by rw [List.getD_eq_getElem?_getD, List.getElem?_eq_getElem hi]; rfl
    rw [List.take_add_one, e]
    show TR.frs td [] (w.take i ++ [w.getD i 0]) = _
    rw [frs_snoc', List.range_succ, List.filter_append, List.map_append]
    have ih := firsts_range td w i (by omega)
    unfold TR.firsts at ih
    rw [ih, List.nil_append]
    congr 1
    rw [List.filter_cons, List.filter_nil]
    split <;> rfl
theorem pl_step {td : Nat → Nat → Bool} (Td : TR.Td td) {v : List Nat} (hv : v ≠ []) : TR.pl td v = TR.lst (TR.firsts td v) :: TR.pl td (v.erase (TR.lst (TR.firsts td v))) := by
  obtain ⟨b, v', rfl⟩ : ∃ b v', v = b :: v' := by
    cases v with
    | nil => exact absurd rfl hv
    | cons b v' => exact ⟨b, v', rfl⟩
  have f := (TR.mem_firsts Td).mp (TR.lst_mem (TR.firsts_ne Td hv))
  have hl : ((b :: v').erase (TR.lst (TR.firsts td (b :: v')))).length = v'.length := by rw [List.length_erase_of_mem f.mem]; rfl
  unfold TR.pl
  rw [hl]
  rfl
/-- the measure of a while over a text in the i-th slot -/
def lenAt (i : Nat) (σ : L2.St) (_ : Hp) : Nat := match σ[i]? with
  | some (some (.str x)) => x.length
  | _ => 0
theorem lst_eq {l : List Nat} {m : Nat} (hm : m ∈ l) (h : ∀ b ∈ l, m ≤ b) : m = TR.lst l := by
  have hne : l ≠ [] := fun z => by rw [z] at hm; cases hm
  exact Nat.le_antisymm (h _ (TR.lst_mem hne)) (TR.lst_le hm)
end HW
namespace HW
theorem not_any {α : Type} (f : α → Bool) : ∀ x : List α, (!(x.map f).any id) = x.all fun c => !f c
  | [] => rfl
  | c :: x => by
    rw [List.map_cons, List.any_cons, List.all_cons, Bool.not_or, not_any f x]
    rfl
end HW

namespace HW
open PySem L2 PyProof.Rows
/-! ## PG: what the landed program's own defs promise -/
theorem S_cps' {l : List Nat} {i : Nat} : (S l).cps[i]? = l[i]? := by simp
def anyT (T : List (List Nat)) (u v : List Nat) : Bool := u.any fun a => v.any fun b => tiedB T a b
/-- any_tied -/
def spAny : Sp := fun vs H Q _ => ∃ (g : Addr) (L : List Nat) (T : List (List Nat)) (u v : List Nat), vs = [.ref g, tx u, tx v] ∧ Ground L T ∧ GAt H g L T ∧ ∀ H', Same H H' → Q (.bl (anyT T u v)) H'
/-- is_first, where the letter stands in the word for the first time behind x -/
def spIsFirst : Sp := fun vs H Q _ => ∃ (g : Addr) (L : List Nat) (T : List (List Nat)) (x y : List Nat) (c : Nat), vs = [.ref g, tx (x ++ c :: y), chV c] ∧ Ground L T ∧ GAt H g L T ∧ c ∉ x ∧ (x ++ c :: y).length ≤ 60 ∧ ∀ H', Same H H' → Q (.bl (!anyT T x [c])) H'
def spWithout : Sp := fun vs H Q _ => ∃ (x y : List Nat) (c n : Nat), vs = [tx (x ++ c :: y), oV n c] ∧ n ≤ H.clk ∧ 1 ≤ H.clk ∧ c ∉ x ∧ (x ++ c :: y).length ≤ 60 ∧ ∀ H', Same H H' → Q (tx (x ++ y)) H'
def spFirsts : Sp := fun vs H Q _ => ∃ (g : Addr) (L : List Nat) (T : List (List Nat)) (w : List Nat), vs = [.ref g, tx w] ∧ Ground L T ∧ GAt H g L T ∧ w.length ≤ 60 ∧
  ∀ (l : Addr) (F : List Nat) (n : Nat) (H' : Hp), Same H H' → H l = none → H' l = some (.lst (F.map (oV n))) → n ≤ H'.clk → F.Pairwise (· < ·) → (∀ a, a ∈ F ↔ TR.Fr (tiedB T) a w) → Q (.ref l) H'
theorem anyT_snoc (T : List (List Nat)) (u v : List Nat) (a : Nat) : anyT T (u ++ [a]) v = (anyT T u v || v.any fun b => tiedB T a b) := by
  unfold anyT
  rw [List.any_append, List.any_cons, List.any_nil, Bool.or_false]
theorem anyT_one {T : List (List Nat)} {x : List Nat} {c : Nat} : anyT T x [c] = false ↔ ∀ a ∈ x, tiedB T c a = false := by
  unfold anyT
  rw [List.any_eq_false]
  constructor
  · intro h a ha
    have := h a ha
    rw [List.any_cons, List.any_nil, Bool.or_false] at this
    rw [(td_ok T).s]
    exact Bool.eq_false_iff.mpr this
  · intro h a ha
    rw [List.any_cons, List.any_nil, Bool.or_false, (td_ok T).s, h a ha]
    exact Bool.false_ne_true
/-- the first place of a letter decides whether it is at the front -/
theorem fr_first {T : List (List Nat)} {x y : List Nat} {c : Nat} (hx : c ∉ x) : (!anyT T x [c]) = true ↔ TR.Fr (tiedB T) c (x ++ c :: y) := by
  rw [Bool.not_eq_true', anyT_one]
  constructor
  · exact fun h => ⟨x, y, rfl, h⟩
  · rintro ⟨x', y', e, h⟩
    have hx' : c ∉ x' := fun z => by have := h c z; rw [(td_ok T).r] at this; cases this
    have : x = x' := by
      clear h
      induction x generalizing x' with
      | nil =>
        cases x' with
        | nil => rfl
        | cons a x' =>
          rw [List.nil_append, List.cons_append] at e
          injection e with e1 _
          exact absurd (e1 ▸ List.mem_cons_self) hx'
      | cons a x ih =>
        cases x' with
        | nil =>
          rw [List.nil_append, List.cons_append] at e
          injection e with e1 _
          exact absurd (e1 ▸ List.mem_cons_self) hx
        | cons b x' =>
          rw [List.cons_append, List.cons_append] at e
          injection e with e1 e2
          rw [e1, ih (fun z => hx (List.mem_cons_of_mem _ z)) x' e2 fun z => hx' (List.mem_cons_of_mem _ z)]
    rw [this]
    exact h
/-- the members of set(a word) -/
theorem set_codes {ss : List Str} {w : List Nat} (nd : ss.Nodup) (hm : ∀ y, y ∈ ss ↔ ∃ c, c ∈ (S w).cps.toList ∧ (⟨#[c]⟩ : Str) = y) : ∃ fd : List Nat, ss = (fd.map fun c => S [c]) ∧ fd.Nodup ∧ ∀ c, c ∈ fd ↔ c ∈ w := by
  have hS : ∀ y ∈ ss, S [y.cps.getD 0 0] = y := fun y hy => by
    obtain ⟨c, _, rfl⟩ := (hm y).mp hy
    rfl
  refine ⟨ss.map fun y => y.cps.getD 0 0, ?_, ?_, fun c => ?_⟩
  · rw [List.map_map]
    conv => lhs; rw [← List.map_id ss]
    exact List.map_congr_left fun y hy => (hS y hy).symm
  · clear hm
    induction ss with
    | nil => exact List.nodup_nil
    | cons y ss ih =>
      rw [List.nodup_cons] at nd
      rw [List.map_cons, List.nodup_cons]
      refine ⟨fun z => ?_, ih nd.2 fun a ha => hS a (List.mem_cons_of_mem _ ha)⟩
      obtain ⟨y', h1, h2⟩ := List.mem_map.mp z
      have e1 := hS y List.mem_cons_self
      have e2 := hS y' (List.mem_cons_of_mem _ h1)
      rw [← e1, ← h2, e2] at nd
      exact nd.1 h1
  · constructor
    · intro hc
      obtain ⟨y, hy, rfl⟩ := List.mem_map.mp hc
      obtain ⟨d, hd, rfl⟩ := (hm y).mp hy
      rw [S_cps] at hd
      exact hd
    · intro hc
      exact List.mem_map.mpr ⟨S [c], (hm _).mpr ⟨c, by rw [S_cps]; exact hc, rfl⟩, rfl⟩
theorem up_head {F v : List Nat} {td : Nat → Nat → Bool} (Td : TR.Td td) (up : F.Pairwise (· < ·)) (hF : ∀ a, a ∈ F ↔ TR.Fr td a v) (hv : v ≠ []) : ∃ F', F = TR.lst (TR.firsts td v) :: F' := by
  cases F with
  | nil =>
    have := (hF _).mpr ((TR.mem_firsts Td).mp (TR.lst_mem (TR.firsts_ne Td hv)))
    cases this
  | cons m F' =>
    refine ⟨F', ?_⟩
    rw [lst_eq (l := TR.firsts td v) (m := m) ((TR.mem_firsts Td).mpr ((hF m).mp List.mem_cons_self)) fun b hb => ?_]
    have hb' := (hF b).mpr ((TR.mem_firsts Td).mp hb)
    rcases List.mem_cons.mp hb' with z | z
    · exact Nat.le_of_eq z.symm
    · exact Nat.le_of_lt ((List.pairwise_cons.mp up).1 b z)
theorem cut_at {w : List Nat} {c : Nat} (h : c ∈ w) : ∃ x y, w = x ++ c :: y ∧ c ∉ x ∧ w.erase c = x ++ y := by
  obtain ⟨x, y, n, e, z⟩ := List.exists_erase_eq h
  exact ⟨x, y, e, n, z⟩
/-- taken: refused with NoLetter where the letter is not at the front -/
def spTakenX (C : Addr) : Sp := fun vs H Q E => ∃ (g : Addr) (L : List Nat) (T : List (List Nat)) (w : List Nat) (c n : Nat), vs = [.ref g, tx w, oV n c] ∧ n ≤ H.clk ∧ Ground L T ∧ GAt H g L T ∧ (∀ c ∈ w, c ∈ L) ∧ c ∈ L ∧ w.length ≤ 60 ∧
  (TR.Fr (tiedB T) c w → ∀ H', Same H H' → Q (tx (TR.pl (tiedB T) (w.erase c))) H') ∧ (¬ TR.Fr (tiedB T) c w → ∀ H', Same H H' → E (.ref C) none H')
/-- left: refused with NoLetter where u is no beginning -/
def spLeftX (C : Addr) : Sp := fun vs H Q E => ∃ (g : Addr) (L : List Nat) (T : List (List Nat)) (u w : List Nat), vs = [.ref g, tx u, tx w] ∧ Ground L T ∧ GAt H g L T ∧ (∀ c ∈ u, c ∈ L) ∧ (∀ c ∈ w, c ∈ L) ∧ u.length ≤ 60 ∧ w.length ≤ 60 ∧
  (TR.Beg (tiedB T) u w → ∀ z H', Same H H' → TR.Least (tiedB T) z → TR.Heq (tiedB T) (u ++ z) w → Q (tx z) H') ∧ (¬ TR.Beg (tiedB T) u w → ∀ H', Same H H' → E (.ref C) none H')
/-- both: the common beginning and what is left of each, where no letters of the rests are tied; else refused with NoLetter -/
def Untied (T : List (List Nat)) (x y : List Nat) : Prop := ∀ a ∈ x, ∀ b ∈ y, tiedB T a b = false
theorem com_one {td : Nat → Nat → Bool} (Td : TR.Td td) {u v c d : List Nat} (h : Com td u v c) (k : Com td u v d) : c = d :=
  TR.least_one Td ((k.max Td h.beg.1 h.beg.2).anti Td (h.max Td k.beg.1 k.beg.2)) h.le k.le
theorem untied_comm {td : Nat → Nat → Bool} (Td : TR.Td td) {x y : List Nat} (h : ∀ a ∈ x, ∀ b ∈ y, td a b = false) : TR.Heq td (x ++ y) (y ++ x) := by
  intro a b t
  rw [TR.pr_app, TR.pr_app]
  by_cases hx : TR.pr a b x = []
  · rw [hx, List.nil_append, List.append_nil]
  by_cases hy : TR.pr a b y = []
  · rw [hy, List.nil_append, List.append_nil]
  obtain ⟨p, hp⟩ := List.exists_mem_of_ne_nil _ hx
  obtain ⟨q, hq⟩ := List.exists_mem_of_ne_nil _ hy
  obtain ⟨p1, p2⟩ := TR.pr_mem.mp hp
  obtain ⟨q1, q2⟩ := TR.pr_mem.mp hq
  have z := h p p1 q q1
  have zz : td p q = true := by
    rcases p2 with rfl | rfl <;> rcases q2 with rfl | rfl
    · exact Td.r _
    · exact t
    · rw [Td.s]; exact t
    · exact Td.r _
  rw [zz] at z
  cases z
theorem both_beg {td : Nat → Nat → Bool} (Td : TR.Td td) {u v c x y w : List Nat} (hC : Com td u v c) (hx : TR.Heq td (c ++ x) u) (hy : TR.Heq td (c ++ y) v) (hu : TR.Beg td u w) (hv : TR.Beg td v w) :
    (∀ a ∈ x, ∀ b ∈ y, td a b = false) ∧ ∃ s, TR.Heq td (c ++ x ++ y ++ s) w := by
  obtain ⟨x', y', hx', hy', di⟩ := hC.ex
  obtain ⟨r, hr⟩ := hu
  obtain ⟨t, ht⟩ := hv
  have e1 : TR.Heq td (c ++ (x ++ r)) w := by rw [← List.append_assoc]; exact (hx.app (TR.Heq.refl _ r)).trans hr
  have e2 : TR.Heq td (c ++ (y ++ t)) w := by rw [← List.append_assoc]; exact (hy.app (TR.Heq.refl _ t)).trans ht
  have dxy : TR.Dis td x y := fun a f1 f2 => di a (f1.heq Td (hx.trans hx'.symm).left) (f2.heq Td (hy.trans hy'.symm).left)
  obtain ⟨ap, s, hs⟩ := TR.both_apart Td (e1.trans e2.symm).left dxy
  refine ⟨ap, s, ?_⟩
  rw [List.append_assoc, List.append_assoc]
  exact ((TR.Heq.refl _ c).app ((TR.Heq.refl _ x).app hs.symm)).trans e1
def spBothX (C : Addr) : Sp := fun vs H Q E => ∃ (g : Addr) (L : List Nat) (T : List (List Nat)) (u v : List Nat), vs = [.ref g, tx u, tx v] ∧ Ground L T ∧ GAt H g L T ∧ (∀ c ∈ u, c ∈ L) ∧ (∀ c ∈ v, c ∈ L) ∧ u.length ≤ 12 ∧ v.length ≤ 12 ∧
  (∀ c x y z H', Same H H' → Com (tiedB T) u v c → TR.Heq (tiedB T) (c ++ x) u → TR.Heq (tiedB T) (c ++ y) v → Untied T x y → TR.Least (tiedB T) z → TR.Heq (tiedB T) (c ++ x ++ y) z → Q (tx z) H') ∧
  (∀ c x y H', Same H H' → Com (tiedB T) u v c → TR.Heq (tiedB T) (c ++ x) u → TR.Heq (tiedB T) (c ++ y) v → ¬ Untied T x y → E (.ref C) none H')
/-- take -/
def spTakeX (C : Addr) : Sp := fun vs H Q E => ∃ (g : Addr) (L : List Nat) (T : List (List Nat)) (w : List Nat) (c n : Nat), vs = [.ref g, tx w, oV n c] ∧ n ≤ H.clk ∧ Ground L T ∧ GAt H g L T ∧ (∀ c ∈ w, c ∈ L) ∧ c ∈ L ∧ w.length ≤ 60 ∧
  (TR.Fr (tiedB T) c w → ∀ H', Same H H' → Q (tx (w.erase c)) H') ∧ (¬ TR.Fr (tiedB T) c w → ∀ H', Same H H' → E (.ref C) none H')
/-- the letters that stand at both fronts -/
def spBothFr : Sp := fun vs H Q _ => ∃ (g : Addr) (L : List Nat) (T : List (List Nat)) (u v : List Nat), vs = [.ref g, tx u, tx v] ∧ Ground L T ∧ GAt H g L T ∧ u.length ≤ 60 ∧ v.length ≤ 60 ∧
  ∀ (l : Addr) (F : List Nat) (n : Nat) (H' : Hp), Same H H' → H l = none → H' l = some (.lst (F.map (oV n))) → n ≤ H'.clk → F.Pairwise (· < ·) → (∀ a, a ∈ F ↔ TR.Fr (tiedB T) a u ∧ TR.Fr (tiedB T) a v) → Q (.ref l) H'
theorem olds_map (F : List Nat) (n : Nat) : ((F.map fun c => S [c]).map fun x => V.old x 1 n) = F.map (oV n) := by rw [List.map_map]; rfl
theorem strs_map (F : List Nat) : ((F.map fun c => S [c]).map V.str) = (F.map fun c => [c]).map tx := by rw [List.map_map, List.map_map]; rfl
theorem mem_ones {c : Nat} {F : List Nat} : [c] ∈ F.map (fun c => [c]) ↔ c ∈ F := by
  rw [List.mem_map]
  constructor
  · rintro ⟨d, h, e⟩
    cases e
    exact h
  · exact fun h => ⟨c, h, rfl⟩
theorem in_ones (c : Nat) (F : List Nat) : inV (chV c) ((F.map fun c => S [c]).map V.str) = decide (c ∈ F) := by
  rw [strs_map]
  show inV (tx [c]) _ = _
  rw [inV_tx]
  exact decide_eq_decide.mpr mem_ones
theorem flat_ones (F : List Nat) : ((F.map fun c => S [c]).map V.str).all flatV = true := by
  rw [strs_map]
  exact flat_tx _
/-- a list of the heap is written anew, nothing else of H -/
theorem same_put {H H1 : Hp} {l : Addr} (hl : H l = none) (s : Same H H1) (o : HO) : Same H (upd H1 l o) := ⟨fun b u z => by rw [upd_ne (ne_of_none z hl)]; exact s b u z, s.ck⟩
theorem code_lt {L : List Nat} (h : Letters L) {w : List Nat} (hw : ∀ c ∈ w, c ∈ L) : ∀ c ∈ (S w).cps.toList, c < 1000 := fun c hc => by
  rw [S_cps] at hc
  have := (h.az c (hw c hc)).2
  omega
theorem dvs_olds {K : PySem.W.Frag} {H : Hp} : ∀ (F : List Nat) (n : Nat), DVs K H (F.map (oV n)) ((F.map fun c => [c]).map tD)
  | [], _ => .nil
  | c :: F, n => .cons (.old _ _ _) (dvs_olds F n)
/-! ### layers, one after the other -/
def lastL (ls : List (List Nat)) : List Nat := ls.getLast?.getD []
theorem last_any (m : List Nat) (ls : List (List Nat)) (d e : List Nat) : (m :: ls).getLast?.getD d = (m :: ls).getLast?.getD e := by
  rw [List.getLast?_eq_some_getLast (List.cons_ne_nil _ _)]
  rfl
theorem lay_snoc {td : Nat → Nat → Bool} {F : List Nat} : ∀ {ls : List (List Nat)} {prev : List Nat}, TR.Lay td prev ls → TR.Flat td F → (∀ a ∈ F, ∃ b ∈ (ls.getLast?.getD prev), td a b = true) → TR.Lay td prev (ls ++ [F])
  | [], prev, _, hF, hb => ⟨hF, hb, trivial⟩
  | l :: ls, prev, h, hF, hb => by
    refine ⟨h.1, h.2.1, lay_snoc (ls := ls) (prev := l) h.2.2 hF ?_⟩
    cases ls with
    | nil => exact hb
    | cons m ls =>
      rw [last_any m ls l prev]
      simpa using hb
theorem layers_snoc {td : Nat → Nat → Bool} {F : List Nat} {ls : List (List Nat)} (h : TR.Layers td ls) (hF : TR.Flat td F) (hb : ls = [] ∨ ∀ a ∈ F, ∃ b ∈ lastL ls, td a b = true) : TR.Layers td (ls ++ [F]) := by
  cases ls with
  | nil => exact ⟨hF, trivial⟩
  | cons l ls =>
    refine ⟨h.1, lay_snoc h.2 hF ?_⟩
    rcases hb with z | z
    · cases z
    · intro a ha
      obtain ⟨b, h1, h2⟩ := z a ha
      refine ⟨b, ?_, h2⟩
      unfold lastL at h1
      cases ls with
      | nil => simpa using h1
      | cons m ls =>
        rw [last_any m ls l []]
        simpa using h1
theorem flat_front {td : Nat → Nat → Bool} (Td : TR.Td td) {F v : List Nat} (up : F.Pairwise (· < ·)) (hF : ∀ a, a ∈ F ↔ TR.Fr td a v) (hv : v ≠ []) : TR.Flat td F := by
  refine ⟨?_, up, fun a ha b hb ne => TR.fr_two Td ((hF a).mp ha) ((hF b).mp hb) ne⟩
  obtain ⟨F', e⟩ := up_head Td up hF hv
  rw [e]
  exact List.cons_ne_nil _ _
/-- letters of the front, taken off one behind the other -/
theorem off_all {td : Nat → Nat → Bool} (Td : TR.Td td) : ∀ {F v : List Nat}, F.Nodup → (∀ a ∈ F, ∀ b ∈ F, a ≠ b → td a b = false) → (∀ a ∈ F, TR.Fr td a v) → TR.Heq td v (F ++ F.foldl List.erase v)
  | [], v, _, _, _ => TR.Heq.refl _ _
  | a :: F, v, nd, un, hF => by
    have fa := hF a List.mem_cons_self
    rw [List.nodup_cons] at nd
    have ih := off_all Td (F := F) (v := v.erase a) nd.2 (fun b hb c hc => un b (List.mem_cons_of_mem _ hb) c (List.mem_cons_of_mem _ hc)) fun b hb => ?_
    · rw [List.foldl_cons, List.cons_append]
      exact (fa.off Td).trans (ih.cons a)
    · have fb := (hF b (List.mem_cons_of_mem _ hb)).heq Td (fa.off Td)
      rcases (TR.fr_cons Td).mp fb with z | z
      · exact absurd (z ▸ hb) nd.1
      · exact z.2
theorem fr_next {td : Nat → Nat → Bool} (Td : TR.Td td) {F v v' : List Nat} (hF : ∀ a, a ∈ F ↔ TR.Fr td a v) (h : TR.Heq td v (F ++ v')) {a : Nat} (f : TR.Fr td a v') : ∃ b ∈ F, td a b = true := by
  by_cases z : ∃ b ∈ F, td a b = true
  · exact z
  · have un : ∀ c ∈ F, td a c = false := fun c hc => by
      cases e : td a c with
      | false => rfl
      | true => exact absurd ⟨c, hc, e⟩ z
    have fa : TR.Fr td a v := (((TR.fr_app Td).mpr (.inr ⟨un, f⟩)) : TR.Fr td a (F ++ v')).heq Td h.symm
    have := un a ((hF a).mpr fa)
    rw [Td.r] at this
    cases this
/-! ### the greatest common beginning, letter by letter -/
theorem Com.step {td : Nat → Nat → Bool} (Td : TR.Td td) {u v c : List Nat} {m : Nat} (fu : TR.Fr td m u) (fv : TR.Fr td m v) (hm : ∀ b, TR.Fr td b u → TR.Fr td b v → m ≤ b) (h : Com td (u.erase m) (v.erase m) c) : Com td u v (m :: c) := by
  obtain ⟨x, y, hx, hy, di⟩ := h.ex
  have eu : TR.Heq td (m :: c ++ x) u := (hx.cons m).trans (fu.off Td).symm
  have ev : TR.Heq td (m :: c ++ y) v := (hy.cons m).trans (fv.off Td).symm
  refine ⟨TR.least_cons Td h.le fun b fb => hm b ?_ ?_, x, y, eu, ev, di⟩
  · exact ((TR.fr_app Td).mpr (.inl fb)).heq Td eu
  · exact ((TR.fr_app Td).mpr (.inl fb)).heq Td ev
theorem Com.stop {td : Nat → Nat → Bool} {u v : List Nat} (h : ∀ a, TR.Fr td a u → TR.Fr td a v → False) : Com td u v [] := ⟨TR.least_nil, u, v, TR.Heq.refl _ _, TR.Heq.refl _ _, h⟩
theorem anyT_false {T : List (List Nat)} {x y : List Nat} : anyT T x y = false ↔ Untied T x y := by
  unfold anyT Untied
  rw [List.any_eq_false]
  constructor
  · intro h a ha b hb
    have := h a ha
    rw [List.any_eq_true] at this
    cases e : tiedB T a b with
    | false => rfl
    | true => exact absurd ⟨b, hb, e⟩ this
  · intro h a ha z
    rw [List.any_eq_true] at z
    obtain ⟨b, hb, e⟩ := z
    rw [h a ha b hb] at e
    cases e
theorem left_weak (C : Addr) : ∀ vs H Q E, spLeft vs H Q E → spLeftX C vs H Q E := by
  rintro vs H Q E ⟨g, L, T, u, w, rfl, G, GA, hu, hw, lu, lw, hb, q⟩
  exact ⟨g, L, T, u, w, rfl, G, GA, hu, hw, lu, lw, fun _ => q, fun z => absurd hb z⟩
theorem taken_weak (C : Addr) : ∀ vs H Q E, spTaken vs H Q E → spTakenX C vs H Q E := by
  rintro vs H Q E ⟨g, L, T, w, c, n, rfl, hk, G, GA, hw, lw, hf, q⟩
  exact ⟨g, L, T, w, c, n, rfl, hk, G, GA, hw, hw c hf.mem, lw, fun _ => q, fun z => absurd hf z⟩
end HW

namespace L2
open PySem PySem.Spec PyProof.Rows PySem.W
/-! ## ExtV: sorting fewer than 64 things that are all unlike -/
section
variable {c : Nat → Nat → Bool} {n : Nat} {α β : Type}
/-- what a tree of questions comes to -/
def KPost (c : Nat → Nat → Bool) (n : Nat) : KasT α → (α → Prop) → Prop
  | .ret a, P => P a
  | .ask i j k, P => i < n ∧ j < n ∧ KPost c n (k (c i j)) P
theorem KPost.bind {f : α → KasT β} {P : β → Prop} : ∀ {t : KasT α}, KPost c n t (fun a => KPost c n (f a) P) → KPost c n (t.bind f) P
  | .ret _, h => h
  | .ask _ _ k, h => ⟨h.1, h.2.1, KPost.bind (t := k _) h.2.2⟩
theorem KPost.mono {P P' : α → Prop} (hm : ∀ a, P a → P' a) : ∀ {t : KasT α}, KPost c n t P → KPost c n t P'
  | .ret a, h => hm a h
  | .ask _ _ k, h => ⟨h.1, h.2.1, KPost.mono hm (t := k _) h.2.2⟩
theorem KPost.wp {cmp : Nat → Nat → (Bool → Shared → Prop) → Shared → Prop} {s : Shared} {P : α → Prop} {Q : α → Shared → Prop} (hc : ∀ i j (C : Bool → Shared → Prop), i < n → j < n → C (c i j) s → cmp i j C s) (hq : ∀ a, P a → Q a s) :
    ∀ {t : KasT α}, KPost c n t P → t.kasWp cmp Q s
  | .ret a, h => hq a h
  | .ask i j k, h => hc i j _ h.1 h.2.1 (KPost.wp hc hq (t := k _) h.2.2)
structure OrdB (c : Nat → Nat → Bool) (n : Nat) : Prop where
  tr : ∀ i j k, i < n → j < n → k < n → c i j = true → c j k = true → c i k = true
  asy : ∀ i j, i < n → j < n → c i j = true → c j i = false
  tot : ∀ i j, i < n → j < n → i ≠ j → c i j = true ∨ c j i = true
structure OkP (n : Nat) (p : Array Nat) : Prop where
  sz : p.size = n
  lt : ∀ i, i < n → p.getD i 0 < n
  inj : ∀ i j, i < n → j < n → p.getD i 0 = p.getD j 0 → i = j
def Srt (c : Nat → Nat → Bool) (p : Array Nat) (k : Nat) : Prop := ∀ i j, i < j → j < k → c (p.getD i 0) (p.getD j 0) = true
def Dsc (c : Nat → Nat → Bool) (p : Array Nat) (k : Nat) : Prop := ∀ i j, i < j → j < k → c (p.getD j 0) (p.getD i 0) = true
theorem OkP.re {p q : Array Nat} (h : OkP n p) (φ : Nat → Nat) (hs : q.size = n) (h1 : ∀ k, k < n → φ k < n) (h2 : ∀ i j, i < n → j < n → φ i = φ j → i = j) (h3 : ∀ k, k < n → q.getD k 0 = p.getD (φ k) 0) : OkP n q :=
  ⟨hs, fun i hi => by rw [h3 i hi]; exact h.lt _ (h1 i hi), fun i j hi hj e => h2 i j hi hj (h.inj _ _ (h1 i hi) (h1 j hj) (by rw [← h3 i hi, ← h3 j hj]; exact e))⟩
theorem rev_at {p : Array Nat} {m : Nat} (hm : m ≤ p.size) (k : Nat) : (kas_rev p 0 m).getD k 0 = p.getD (if k < m then m - 1 - k else k) 0 := by
  rw [Array.getD_eq_getD_getElem?, Array.getD_eq_getD_getElem?]
  unfold kas_rev
  rw [getElem?_mirror_all hm]
  by_cases h : k < m
  · rw [if_pos ⟨Nat.zero_le _, h⟩, if_pos h, Nat.zero_add]
  · rw [if_neg (fun z => h z.2), if_neg h]
theorem rev_ok {p : Array Nat} {m : Nat} (h : OkP n p) (hm : m ≤ n) : OkP n (kas_rev p 0 m) := by
  refine h.re (fun k => if k < m then m - 1 - k else k) (by rw [← h.sz]; exact mirror_size _ _ _ _) (fun k hk => ?_) (fun i j hi hj e => ?_) fun k hk => rev_at (by rw [h.sz]; exact hm) k
  · show (if k < m then m - 1 - k else k) < n
    split <;> omega
  · have e : (if i < m then m - 1 - i else i) = (if j < m then m - 1 - j else j) := e
    split at e <;> split at e <;> omega
theorem rev_srt {p : Array Nat} {m : Nat} (hm : m ≤ p.size) (h : Dsc c p m) : Srt c (kas_rev p 0 m) m := by
  intro i j hij hj
  rw [rev_at hm, rev_at hm, if_pos (by omega), if_pos hj]
  exact h _ _ (by omega) (by omega)
theorem bub_at {p : Array Nat} {k l : Nat} (hk : k < p.size) (hl : l ≤ k) (i : Nat) : (bubble p k (k - l)).getD i 0 = p.getD (if i = l then k else if l < i ∧ i ≤ k then i - 1 else i) 0 := by
  rw [Array.getD_eq_getD_getElem?, Array.getD_eq_getD_getElem?, getElem?_bubble hk (k - l) (by omega)]
  have e : k - (k - l) = l := by omega
  rw [e]
  by_cases h1 : i = l
  · rw [if_pos h1, if_pos h1]
  · rw [if_neg h1, if_neg h1]
    by_cases h2 : l < i ∧ i ≤ k
    · rw [if_pos h2, if_pos h2]
    · rw [if_neg h2, if_neg h2]
theorem bub_ok {p : Array Nat} {k l : Nat} (h : OkP n p) (hk : k < n) (hl : l ≤ k) : OkP n (bubble p k (k - l)) := by
  refine h.re (fun i => if i = l then k else if l < i ∧ i ≤ k then i - 1 else i) (by rw [bubble_size]; exact h.sz) (fun i hi => ?_) (fun i j hi hj e => ?_) fun i hi => bub_at (by rw [h.sz]; exact hk) hl i
  · show (if i = l then k else if l < i ∧ i ≤ k then i - 1 else i) < n
    split
    · exact hk
    · split <;> omega
  · have e : (if i = l then k else if l < i ∧ i ≤ k then i - 1 else i) = (if j = l then k else if l < j ∧ j ≤ k then j - 1 else j) := e
    split at e <;> split at e <;> (try split at e) <;> (try split at e) <;> omega
variable (O : OrdB c n)
include O
theorem asc_ok {p : Array Nat} (hp : OkP n p) : ∀ (f m : Nat), 1 ≤ m → m + f ≤ n → Srt c p m → KPost c n (kas_asc p f m) fun r => m ≤ r ∧ r ≤ m + f ∧ Srt c p r ∧ (r < m + f → c (p.getD r 0) (p.getD (r - 1) 0) = true)
  | 0, m, _, _, hs => ⟨Nat.le_refl _, Nat.le_refl _, hs, fun z => absurd z (Nat.lt_irrefl _)⟩
  | f + 1, m, h1, hm, hs => by
    refine ⟨hp.lt m (by omega), hp.lt (m - 1) (by omega), ?_⟩
    cases hc : c (p.getD m 0) (p.getD (m - 1) 0) with
    | true => exact ⟨Nat.le_refl _, by omega, hs, fun _ => hc⟩
    | false =>
      have h2 : c (p.getD (m - 1) 0) (p.getD m 0) = true := by
        rcases O.tot _ _ (hp.lt (m - 1) (by omega)) (hp.lt m (by omega)) (fun e => by have := hp.inj (m - 1) m (by omega) (by omega) e; omega) with z | z
        · exact z
        · rw [hc] at z; cases z
      have hs' : Srt c p (m + 1) := fun i j hij hj => by
        by_cases e : j = m
        · subst e
          by_cases e2 : i = j - 1
          · rw [e2]; exact h2
          · exact O.tr _ _ _ (hp.lt i (by omega)) (hp.lt (j - 1) (by omega)) (hp.lt j (by omega)) (hs i (j - 1) (by omega) (by omega)) h2
        · exact hs i j hij (by omega)
      refine KPost.mono (fun r h => ?_) (asc_ok hp f (m + 1) (by omega) (by omega) hs')
      exact ⟨by omega, by omega, h.2.2.1, fun z => h.2.2.2 (by omega)⟩
theorem desc_ok {p : Array Nat} (hp : OkP n p) : ∀ (f m : Nat), 2 ≤ m → m + f ≤ n → Dsc c p m → KPost c n (kas_desc f p m 0) fun r => r.1 = p ∧ r.2.2 = 0 ∧ m ≤ r.2.1 ∧ r.2.1 ≤ m + f ∧ Dsc c p r.2.1
  | 0, m, _, _, hs => ⟨rfl, rfl, Nat.le_refl _, Nat.le_refl _, hs⟩
  | f + 1, m, h1, hm, hs => by
    refine ⟨hp.lt m (by omega), hp.lt (m - 1) (by omega), ?_⟩
    cases hc : c (p.getD m 0) (p.getD (m - 1) 0) with
    | true =>
      have hs' : Dsc c p (m + 1) := fun i j hij hj => by
        by_cases e : j = m
        · subst e
          by_cases e2 : i = j - 1
          · rw [e2]; exact hc
          · exact O.tr _ _ _ (hp.lt j (by omega)) (hp.lt (j - 1) (by omega)) (hp.lt i (by omega)) hc (hs i (j - 1) (by omega) (by omega))
        · exact hs i j hij (by omega)
      refine KPost.mono (fun r h => ?_) (desc_ok hp f (m + 1) (by omega) (by omega) hs')
      exact ⟨h.1, h.2.1, by omega, by omega, h.2.2.2.2⟩
    | false =>
      have h2 : c (p.getD (m - 1) 0) (p.getD m 0) = true := by
        rcases O.tot _ _ (hp.lt (m - 1) (by omega)) (hp.lt m (by omega)) (fun e => by have := hp.inj (m - 1) m (by omega) (by omega) e; omega) with z | z
        · exact z
        · rw [hc] at z; cases z
      refine ⟨hp.lt (m - 1) (by omega), hp.lt m (by omega), ?_⟩
      rw [h2]
      exact ⟨rfl, rfl, Nat.le_refl _, Nat.le_add_right _ _, hs⟩
theorem count_ok {p : Array Nat} (hp : OkP n p) (hn : 1 ≤ n) : KPost c n (kas_count n p) fun r => 1 ≤ r.1 ∧ r.1 ≤ n ∧ OkP n r.2 ∧ Srt c r.2 r.1 := by
  refine KPost.bind (KPost.mono (fun m h => ?_) (asc_ok O hp (n - 1) 1 (Nat.le_refl _) (by omega) fun i j _ _ => by omega))
  obtain ⟨h1, h2, h3, h4⟩ := h
  by_cases e : (m == n) = true
  · rw [if_pos e]
    exact ⟨h1, by omega, hp, h3⟩
  · rw [if_neg e]
    have hne : m ≠ n := fun z => e (by rw [z]; exact beq_self_eq_true _)
    by_cases e2 : m > 1
    · rw [if_pos e2]
      refine ⟨hp.lt 0 (by omega), hp.lt (m - 1) (by omega), ?_⟩
      rw [h3 0 (m - 1) (by omega) (by omega)]
      exact ⟨h1, by omega, hp, h3⟩
    · rw [if_neg e2]
      have hm : m = 1 := by omega
      subst hm
      have hc := h4 (by omega)
      refine KPost.bind (KPost.mono (fun r h => ?_) (desc_ok O hp (n - (1 + 1)) (1 + 1) (by omega) (by omega) fun i j hij hj => ?_))
      · obtain ⟨q1, q2, q3, q4, q5⟩ := h
        rw [if_neg (by omega), q1]
        have hr := rev_ok hp (m := r.2.1) (by omega)
        refine KPost.bind (KPost.mono (fun m' h' => ?_) (asc_ok O hr (n - r.2.1) r.2.1 (by omega) (by omega) (rev_srt (by rw [hp.sz]; omega) q5)))
        exact ⟨by omega, by omega, hr, h'.2.2.1⟩
      · have e1 : i = 0 := by omega
        have e2 : j = 1 := by omega
        subst e1 e2
        exact hc
theorem place_ok {p : Array Nat} {k : Nat} (hp : OkP n p) (hk : k < n) (hs : Srt c p k) : ∀ (f l r : Nat), l ≤ r → r ≤ k → r - l ≤ f → (∀ i, i < l → c (p.getD i 0) (p.getD k 0) = true) → (∀ i, r ≤ i → i < k → c (p.getD k 0) (p.getD i 0) = true) →
    KPost c n (kas_place p k f l r) fun x => x ≤ k ∧ (∀ i, i < x → c (p.getD i 0) (p.getD k 0) = true) ∧ ∀ i, x ≤ i → i < k → c (p.getD k 0) (p.getD i 0) = true
  | 0, l, r, h1, h2, h3, h4, h5 => by
    have e : l = r := by omega
    subst e
    exact ⟨h2, h4, h5⟩
  | f + 1, l, r, h1, h2, h3, h4, h5 => by
    unfold kas_place
    by_cases hlr : l ≥ r
    · rw [if_pos hlr]
      have e : l = r := by omega
      subst e
      exact ⟨h2, h4, h5⟩
    · rw [if_neg hlr]
      have hm : (l + r) / 2 < k := by omega
      refine ⟨hp.lt k hk, hp.lt _ (by omega), ?_⟩
      cases hc : c (p.getD k 0) (p.getD ((l + r) / 2) 0) with
      | true =>
        refine place_ok hp hk hs f l ((l + r) / 2) (by omega) (by omega) (by omega) h4 fun i hi hik => ?_
        by_cases e : i = (l + r) / 2
        · rw [e]; exact hc
        · exact O.tr _ _ _ (hp.lt k hk) (hp.lt _ (by omega)) (hp.lt i (by omega)) hc (hs _ _ (by omega) hik)
      | false =>
        have h6 : c (p.getD ((l + r) / 2) 0) (p.getD k 0) = true := by
          rcases O.tot _ _ (hp.lt ((l + r) / 2) (by omega)) (hp.lt k hk) (fun e => by have := hp.inj _ _ (by omega) hk e; omega) with z | z
          · exact z
          · rw [hc] at z; cases z
        refine place_ok hp hk hs f ((l + r) / 2 + 1) r (by omega) h2 (by omega) (fun i hi => ?_) h5
        by_cases e : i = (l + r) / 2
        · rw [e]; exact h6
        · exact O.tr _ _ _ (hp.lt i (by omega)) (hp.lt _ (by omega)) (hp.lt k hk) (hs _ _ (by omega) hm) h6
theorem bin_ok : ∀ (f : Nat) {p : Array Nat} (k : Nat), OkP n p → k + f = n → Srt c p k → KPost c n (kas_bin f p k) fun q => OkP n q ∧ Srt c q n
  | 0, p, k, hp, hk, hs => by
    have e : k = n := by omega
    subst e
    exact ⟨hp, hs⟩
  | f + 1, p, k, hp, hk, hs => by
    refine KPost.bind (KPost.mono (fun l h => ?_) (place_ok O hp (k := k) (by omega) hs k 0 k (by omega) (Nat.le_refl _) (by omega) (fun i hi => by omega) fun i h1 h2 => by omega))
    obtain ⟨hl, h1, h2⟩ := h
    refine bin_ok f (k + 1) (bub_ok hp (by omega) hl) (by omega) fun i j hij hj => ?_
    rw [bub_at (by rw [hp.sz]; omega) hl, bub_at (by rw [hp.sz]; omega) hl]
    by_cases e1 : i = l
    · rw [if_pos e1, if_neg (by omega), if_pos ⟨by omega, by omega⟩]
      exact h2 _ (by omega) (by omega)
    · rw [if_neg e1]
      by_cases e2 : j = l
      · rw [if_pos e2, if_neg (by omega)]
        exact h1 _ (by omega)
      · rw [if_neg e2]
        split <;> split <;> exact hs _ _ (by omega) (by omega)
theorem sort_ok (hn : 1 ≤ n) : KPost c n (kas_sort n) fun q => OkP n q ∧ Srt c q n := by
  have hr : OkP n (List.toArray (List.range n)) := by
    have ha : ∀ i, i < n → (List.toArray (List.range n)).getD i 0 = i := fun i hi => by
      rw [Array.getD_eq_getD_getElem?, List.getElem?_toArray, List.getElem?_range hi]
      rfl
    exact ⟨by simp, fun i hi => by rw [ha i hi]; exact hi, fun i j hi hj e => by rw [ha i hi, ha j hj] at e; exact e⟩
  refine KPost.bind (KPost.mono (fun r h => ?_) (count_ok O hr hn))
  obtain ⟨h1, h2, h3, h4⟩ := h
  by_cases e : r.1 < n
  · rw [if_pos e, Nat.max_eq_left h1]
    exact bin_ok O _ _ h3 (by omega) h4
  · rw [if_neg e]
    have e : r.1 = n := by omega
    rw [e] at h4
    exact ⟨h3, h4⟩
end
/-- the things themselves: the same ones, each below the next -/
theorem okP_out {c : Nat → Nat → Bool} {p : Array Nat} {γ : Type} {vs : List γ} {d : γ} (h : OkP vs.length p) (hs : Srt c p vs.length) (R : γ → γ → Prop) (hR : ∀ i j, i < vs.length → j < vs.length → c i j = true → R (vs.getD i d) (vs.getD j d)) :
    (p.toList.map fun i => vs.getD i d).Perm vs ∧ (p.toList.map fun i => vs.getD i d).Pairwise R := by
  have hg : ∀ i (hi : i < p.toList.length), p.toList[i] = p.getD i 0 := fun i hi => by
    rw [Array.getD_eq_getD_getElem?, Array.getElem_toList]
    have : i < p.size := by simpa using hi
    rw [Array.getElem?_eq_getElem this]
    rfl
  have hl : p.toList.length = vs.length := by rw [Array.length_toList]; exact h.sz
  constructor
  · have hp : p.toList.Perm (List.range vs.length) := by
      refine (List.perm_ext_iff_of_nodup ?_ List.nodup_range).mpr fun a => ?_
      · rw [List.nodup_iff_pairwise_ne, List.pairwise_iff_getElem]
        intro i j hi hj hij e
        rw [hg, hg] at e
        have := h.inj i j (by omega) (by omega) e
        omega
      · rw [List.mem_range]
        constructor
        · intro ha
          obtain ⟨i, hi, rfl⟩ := List.getElem_of_mem ha
          rw [hg]
          exact h.lt i (by omega)
        · intro ha
          have nd : p.toList.Nodup := by
            rw [List.nodup_iff_pairwise_ne, List.pairwise_iff_getElem]
            intro i j hi hj hij e
            rw [hg, hg] at e
            have := h.inj i j (by omega) (by omega) e
            omega
          refine Classical.byContradiction fun z => ?_
          have hsub : ∀ x ∈ a :: p.toList, x ∈ List.range vs.length := fun x hx => by
            rw [List.mem_range]
            rcases List.mem_cons.mp hx with rfl | hx
            · exact ha
            · obtain ⟨i, hi, rfl⟩ := List.getElem_of_mem hx
              rw [hg]
              exact h.lt i (by omega)
          have := TR.nodup_len_le (List.nodup_cons.mpr ⟨z, nd⟩) hsub
          rw [List.length_cons, List.length_range] at this
          omega
    have e : (List.range vs.length).map (fun i => vs.getD i d) = vs := by
      refine List.ext_getElem (by simp) fun i h1 h2 => ?_
      simp [h2]
    exact (hp.map _).trans (by rw [e])
  · rw [List.pairwise_map, List.pairwise_iff_getElem]
    intro i j hi hj hij
    rw [hg, hg]
    exact hR _ _ (h.lt i (by omega)) (h.lt j (by omega)) (hs i j hij (by omega))
end L2

namespace L2
open PySem PySem.Spec PyProof.Rows PySem.W
/-! ## ExtV2: sorted(a list of pairs of a whole number and a text) -/
section
variable {prog : Program} {w : World} {A : Around} {E : Value → Shared → Prop} {s : Shared}
theorem range_out {γ : Type} (vs : List γ) (d : γ) : ((List.toArray (List.range vs.length)).toList.map fun i => vs.getD i d) = vs := by
  refine List.ext_getElem (by simp) fun i h1 h2 => ?_
  simp [h2]
theorem lsort_kas {a : Addr} {n : Nat} {vs : List Value} {c : Nat → Nat → Bool} {P : PySem.Fin → Shared → Prop} {κ : SortKind} (ho : s.heap.get? a = some (seqObj "list" vs.toArray n)) (h64 : vs.length < 64) (O : OrdB c vs.length)
    (hk : 2 ≤ vs.length → ∀ h' : Heap, (∀ b o, b ≠ a → s.heap.get? b = some o → h'.get? b = some o) → (∀ R : SortKind → Shared → Prop, R κ { s with heap := h' } → wpAny (model prog w) A (keyKind' vs.toArray) R E { s with heap := h' }) ∧
      ∀ i j (C : Bool → Shared → Prop), i < vs.length → j < vs.length → C (c i j) { s with heap := h' } → kas_ask prog w A κ vs i j C { s with heap := h' })
    (h : ∀ p : Array Nat, OkP vs.length p → Srt c p vs.length → P (.done (.ret .none)) { s with heap := sortedHeap s.heap a vs (List.toArray (p.toList.map fun i => vs.getD i Value.none)) }) :
    wpAny (model prog w) A (Builtin.«list.sort» ⟨[.ref a], []⟩) P E s := by
  rw [list_sort_plain]
  have ha : a < s.heap.objs.size := Heap.lt_size ho
  refine wpAny_bind (listItems_at ho rfl ?_)
  refine wpAny_bind (listUpdate_at ho rfl ?_ (by rw [List.size_toArray, sizeLine_eq]; omega) (Nat.zero_le _))
  obtain ⟨e1, ho1⟩ : ∃ e1, (s.heap.update a (Obj.mapSeq fun _ => #[])).get? a = some (seqObj "list" #[] e1) := ⟨_, get?_update_seq ho (fun _ => #[])⟩
  refine wpAny_bind (seqEpoch_at ho1 rfl ?_)
  refine wpAny_bind (wpAny_newTuple ?_ (by show vs.length ≤ _; rw [sizeLine_eq]; omega))
  refine wpAny_bind (wpAny_newList ?_ (Nat.zero_le _))
  refine wpAny_holding ?_
  have old : ∀ b o, b ≠ a → s.heap.get? b = some o → (((s.heap.update a (Obj.mapSeq fun _ => #[])).push (seqObj "tuple" vs.toArray 0)).push (seqObj "list" #[] 0)).get? b = some o := fun b o hb q =>
    Heap.get?_push_of_some _ (Heap.get?_push_of_some _ (by rw [Heap.get?_update_ne _ _ _ _ hb]; exact q))
  have ho6 : (((s.heap.update a (Obj.mapSeq fun _ => #[])).push (seqObj "tuple" vs.toArray 0)).push (seqObj "list" #[] 0)).get? a = some (seqObj "list" #[] e1) := Heap.get?_push_of_some _ (Heap.get?_push_of_some _ ho1)
  show wpAny (model prog w) A _ P E { s with heap := ((s.heap.update a (Obj.mapSeq fun _ => #[])).push (seqObj "tuple" vs.toArray 0)).push (seqObj "list" #[] 0) }
  dsimp only
  have hsz : vs.toArray.size = vs.length := by simp
  have hout : ∀ p : Array Nat, p.size = vs.length → (List.toArray (p.toList.map fun i => vs.getD i Value.none)).size ≤ sizeLine + 1 := fun p hp => by
    rw [List.size_toArray, List.length_map, Array.length_toList, hp, sizeLine_eq]
    omega
  by_cases h2 : vs.toArray.size < 2
  · rw [if_pos h2, if_pos h2]
    refine wpAny_bind (wpAny_pure ?_)
    rw [StateT.run_pure]
    refine wpAny_bind (wpAny_pure ?_)
    dsimp only
    have e0 : (vs.toArray.zip vs.toArray).map (·.2) = List.toArray ((List.toArray (List.range vs.length)).toList.map fun i => vs.getD i Value.none) := by
      rw [range_out]
      apply Array.toList_inj.mp
      simp [List.map_snd_zip]
    have hr : OkP vs.length (List.toArray (List.range vs.length)) := by
      have ha : ∀ i, i < vs.length → (List.toArray (List.range vs.length)).getD i 0 = i := fun i hi => by
        rw [Array.getD_eq_getD_getElem?, List.getElem?_toArray, List.getElem?_range hi]
        rfl
      exact ⟨by simp, fun i hi => by rw [ha i hi]; exact hi, fun i j hi hj e => by rw [ha i hi, ha j hj] at e; exact e⟩
    refine wpAny_bind (seqEpoch_at ho6 rfl ?_)
    rw [e0]
    refine wpAny_bind (listUpdate_at ho6 rfl ?_ (Nat.zero_le _) (hout (List.toArray (List.range vs.length)) (by rw [List.size_toArray, List.length_range])))
    simp only [bne_self_eq_false, Bool.false_eq_true, if_false]
    exact wpAny_pure (h _ hr fun i j hij hj => by omega)
  · rw [if_neg h2, if_neg h2]
    obtain ⟨k1, k2⟩ := hk (by omega) _ old
    refine wpAny_bind (k1 _ ?_)
    refine wpAny_bind (wpAny_mono (kat_run (κ := κ) (ks := vs) (vs := vs) (Q := fun st' s' => s' = { s with heap := ((s.heap.update a (Obj.mapSeq fun _ => #[])).push (seqObj "tuple" vs.toArray 0)).push (seqObj "list" #[] 0) } ∧ ∃ p : Array Nat, OkP vs.length p ∧ Srt c p vs.length ∧ arrOf st' = p.map (kas_item (vs.toArray.zip vs.toArray)) ∧ failedOf st' = none)
      (G := fun p s' => s' = { s with heap := ((s.heap.update a (Obj.mapSeq fun _ => #[])).push (seqObj "tuple" vs.toArray 0)).push (seqObj "list" #[] 0) } ∧ OkP vs.length p ∧ Srt c p vs.length)
      rfl (by omega) h64 (fun p st' s' _ e2 e3 g => ⟨g.1, p, g.2.1, g.2.2, e2, e3⟩) (KPost.wp k2 (fun p hp => ⟨rfl, hp⟩) (sort_ok O (by omega)))) ?_ fun _ _ e => e)
    rintro ⟨⟨⟩, st'⟩ s' ⟨rfl, p, hp, hs, har, hf⟩
    dsimp only
    have har := kat_snds rfl har
    refine wpAny_bind (seqEpoch_at ho6 rfl ?_)
    rw [har]
    refine wpAny_bind (listUpdate_at ho6 rfl ?_ (Nat.zero_le _) (hout p hp.sz))
    rw [hf]
    simp only [bne_self_eq_false, Bool.false_eq_true, if_false]
    exact wpAny_pure (h p hp hs)
/-- sorted(a list), by questions -/
theorem sorted_kas {l : Addr} {vs : List Value} {c : Nat → Nat → Bool} {Q : Value → Shared → Prop} {κ : SortKind} (hl : s.heap.IsList l vs.toArray) (h64 : vs.length < 64) (O : OrdB c vs.length)
    (hk : 2 ≤ vs.length → ∀ h' : Heap, (∀ b o, s.heap.get? b = some o → h'.get? b = some o) → (∀ (E' : Value → Shared → Prop) (R : SortKind → Shared → Prop), R κ { s with heap := h' } → wpAny (model prog w) A.in1.in1 (keyKind' vs.toArray) R E' { s with heap := h' }) ∧
      ∀ i j (C : Bool → Shared → Prop), i < vs.length → j < vs.length → C (c i j) { s with heap := h' } → kas_ask prog w A.in1.in1 κ vs i j C { s with heap := h' })
    (h : ∀ p : Array Nat, OkP vs.length p → Srt c p vs.length → Q (.ref (s.heap.objs.size + 1)) { s with heap := sortedAll s.heap vs (List.toArray (p.toList.map fun i => vs.getD i Value.none)) }) :
    wpAny (model prog w) A (call (.builtin "sorted") [.ref l]) Q E s := by
  refine Calls.call_function_entry kind_sorted plain_sorted entry_sorted (args_sorted1 _) ?_
  unfold Builtin.«sorted»
  refine wpAny_bind (m := checkCount "sorted" 1 1 _) (wpAny_pure ?_)
  refine wpAny_bind (collect_list hl ?_ (by rw [sizeLine_eq]; omega))
  refine wpAny_bind (wpAny_newList ?_ (by rw [sizeLine_eq]; omega))
  have hsz : ((s.heap.push (seqObj "list" #[] 0)).update s.heap.objs.size (Obj.mapSeq (· ++ vs.toArray))).objs.size = s.heap.objs.size + 1 := by
    rw [Heap.size_update, size_push']
  have hoL : (((s.heap.push (seqObj "list" #[] 0)).update s.heap.objs.size (Obj.mapSeq (· ++ vs.toArray))).push (seqObj "list" vs.toArray 0)).get? (s.heap.objs.size + 1) = some (seqObj "list" vs.toArray 0) := by
    rw [← hsz]; exact Heap.get?_push_size _ rfl
  have keep : ∀ b o, s.heap.get? b = some o → (((s.heap.push (seqObj "list" #[] 0)).update s.heap.objs.size (Obj.mapSeq (· ++ vs.toArray))).push (seqObj "list" vs.toArray 0)).get? b = some o := fun b o q => by
    have hlt : b < s.heap.objs.size := Heap.lt_size q
    rw [Heap.get?_push_ne _ _ _ (by rw [hsz]; exact Nat.ne_of_lt (Nat.lt_succ_of_lt hlt)), Heap.get?_update_ne _ _ _ _ (Nat.ne_of_lt hlt), Heap.get?_push_ne _ _ _ (Nat.ne_of_lt hlt)]
    exact q
  show wpAny _ _ _ _ _ { s with heap := ((s.heap.push (seqObj "list" #[] 0)).update s.heap.objs.size (Obj.mapSeq (· ++ vs.toArray))).push (seqObj "list" vs.toArray 0) }
  rw [hsz]
  refine wpAny_bind (wpAny_holding (wpAny_call_entry slot_list_sort ⟨_, hoL, rfl⟩ entry_list_sort (lsort_kas (κ := κ) hoL h64 O (fun h2 h' kp => ?_) fun p h1 h2 => ⟨_, rfl, ?_⟩) (args_list_sort _)))
  · have kp' : ∀ b o, s.heap.get? b = some o → h'.get? b = some o := fun b o q => kp b o (Nat.ne_of_lt (Nat.lt_succ_of_lt (Heap.lt_size q))) (keep b o q)
    exact ⟨(hk h2 h' kp').1 _, (hk h2 h' kp').2⟩
  · exact wpAny_pure ⟨_, rfl, h p h1 h2⟩
end
/-- the order of pairs -/
def pLt (e f : Int × Str) : Bool := if e.1 = f.1 then decide (e.2.cps.toList < f.2.cps.toList) else decide (e.1 < f.1)
section
variable {prog : Program} {w : World} {A : Around} {E : Value → Shared → Prop} {s : Shared}
/-- a tuple (whole number, text) of the heap -/
def PairAt (h : Heap) (b : Addr) (e : Int × Str) : Prop := ∃ o t u n, h.get? b = some o ∧ o.cls = .type "tuple" ∧ o.data = .seq #[.int e.1 t, .str e.2 u] n
theorem pair_lt {x y : Addr} {e f : Int × Str} {Q : Bool → Shared → Prop} (hx : PairAt s.heap x e) (hy : PairAt s.heap y f) (h : Q (pLt e f) s) : wpAny (model prog w) A (keyLt' (tuples' true) (.ref x) (.ref y)) Q E s := by
  obtain ⟨o, t, u, n, h1, _, h3⟩ := hx
  obtain ⟨o', t', u', n', g1, _, g3⟩ := hy
  refine kat_lt h1 h3 g1 g3 (kat_cons (wpAny_eqBool_int ?_))
  unfold pLt at h
  by_cases e1 : e.1 = f.1
  · rw [if_pos e1] at h
    rw [beq_iff_eq.mpr e1]
    refine kat_yes (kat_cons (wpAny_eqBool_str ?_))
    by_cases e2 : e.2 = f.2
    · rw [decide_eq_true e2]
      refine kat_yes (kat_nil ?_)
      rw [e2, decide_eq_false (List.lt_irrefl _)] at h
      exact h
    · rw [decide_eq_false e2]
      exact kat_no (kat_one _ _ (lt_str h))
  · rw [if_neg e1] at h
    rw [beq_eq_false_iff_ne.mpr e1]
    exact kat_no (oneLt_int h)
end
theorem pLt_ord {q : List (Addr × Int × Str)} (nd : (q.map (·.2.2)).Nodup) {d : Addr × Int × Str} : OrdB (fun i j => pLt (q.getD i d).2 (q.getD j d).2) q.length where
  tr i j k _ _ _ h1 h2 := by
    generalize (q.getD i d).2 = a at *
    generalize (q.getD j d).2 = b at *
    generalize (q.getD k d).2 = e at *
    unfold pLt at *
    by_cases h3 : a.1 = b.1
    · rw [if_pos h3] at h1
      by_cases h4 : b.1 = e.1
      · rw [if_pos h4] at h2
        rw [if_pos (h3.trans h4)]
        exact decide_eq_true (List.lt_trans (of_decide_eq_true h1) (of_decide_eq_true h2))
      · rw [if_neg h4] at h2
        rw [if_neg (by rw [h3]; exact h4), h3]
        exact h2
    · rw [if_neg h3] at h1
      have h1 := of_decide_eq_true h1
      by_cases h4 : b.1 = e.1
      · rw [if_neg (by rw [← h4]; exact h3), ← h4]
        exact decide_eq_true h1
      · rw [if_neg h4] at h2
        have h2 := of_decide_eq_true h2
        rw [if_neg (by omega)]
        exact decide_eq_true (by omega)
  asy i j _ _ h := by
    generalize (q.getD i d).2 = a at *
    generalize (q.getD j d).2 = b at *
    unfold pLt at *
    by_cases h3 : a.1 = b.1
    · rw [if_pos h3] at h
      rw [if_pos h3.symm]
      exact decide_eq_false fun z => List.lt_irrefl _ (List.lt_trans (of_decide_eq_true h) z)
    · rw [if_neg h3] at h
      have h := of_decide_eq_true h
      rw [if_neg (fun z => h3 z.symm)]
      exact decide_eq_false (by omega)
  tot i j hi hj hij := by
    have hne : (q.getD i d).2.2 ≠ (q.getD j d).2.2 := fun z => by
      have e1 : q.getD i d = q[i] := by simp [hi]
      have e2 : q.getD j d = q[j] := by simp [hj]
      rw [e1, e2] at z
      rw [List.nodup_iff_pairwise_ne, List.pairwise_map, List.pairwise_iff_getElem] at nd
      rcases Nat.lt_or_gt_of_ne hij with h | h
      · exact nd i j hi hj h z
      · exact nd j i hj hi h z.symm
    generalize (q.getD i d).2 = a at *
    generalize (q.getD j d).2 = b at *
    unfold pLt
    by_cases h3 : a.1 = b.1
    · rw [if_pos h3, if_pos h3.symm]
      have hn : a.2.cps.toList ≠ b.2.cps.toList := fun z => hne (by
        cases ha : a.2; cases hb : b.2
        rw [ha, hb] at z
        exact congrArg Str.mk (Array.toList_inj.mp z))
      by_cases h4 : a.2.cps.toList < b.2.cps.toList
      · exact .inl (decide_eq_true h4)
      · by_cases h5 : b.2.cps.toList < a.2.cps.toList
        · exact .inr (decide_eq_true h5)
        · exact absurd (strKind.total _ _ (decide_eq_false h4) (decide_eq_false h5)) hn
    · rw [if_neg h3, if_neg (fun z => h3 z.symm)]
      rcases Int.lt_or_gt_of_ne h3 with h | h
      · exact .inl (decide_eq_true h)
      · exact .inr (decide_eq_true h)
section
variable {X : Cx}
/-- sorted(a list of such pairs, their texts unlike) -/
def rSortedP (K : PySem.W.Frag) : List V → Hp → VK → Prop := fun xs H Q => ∃ (p : Addr) (q : List (Addr × Int × Str)), xs = [.ref p] ∧ SqL K H p (q.map fun e => V.ref e.1) ∧ (∀ e ∈ q, H e.1 = some (.tup [.int e.2.1, .str e.2.2])) ∧ (q.map (·.2.2)).Nodup ∧ q.length < 64 ∧
  ∀ (l : Addr) (q' : List (Addr × Int × Str)), H l = none → q'.Perm q → q'.Pairwise (fun e f => pLt e.2 f.2 = true) → Q (.ref l) (upd H l (.lst (q'.map fun e => V.ref e.1)))
theorem refs_vals : ∀ {q : List (Addr × Int × Str)} {us : List Value}, Vals (q.map fun e => V.ref e.1) us → us = q.map fun e => Value.ref e.1
  | [], _, r => by rw [List.map_nil] at r; cases r; rfl
  | e :: q, _, r => by
    rw [List.map_cons] at r
    cases r with
    | cons h t => cases h; rw [refs_vals t]; rfl
theorem vals_refs : ∀ (q : List (Addr × Int × Str)), Vals (q.map fun e => V.ref e.1) (q.map fun e => Value.ref e.1)
  | [] => .nil
  | _ :: q => .cons rfl (vals_refs q)
theorem tups_of {h : Heap} : ∀ {q : List (Addr × Int × Str)}, (∀ e ∈ q, PairAt h e.1 e.2) → ∃ fs : List Value, KatTups h (q.map fun e => Value.ref e.1) fs ∧ fs.length = q.length ∧ ∀ v ∈ fs, ∃ m t, v = Value.int m t
  | [], _ => ⟨[], trivial, rfl, fun _ z => nomatch z⟩
  | e :: q, hq => by
    obtain ⟨fs, k1, k2, k3⟩ := tups_of fun f hf => hq f (List.mem_cons_of_mem _ hf)
    obtain ⟨o, t, u, n, g1, g2, g3⟩ := hq e List.mem_cons_self
    refine ⟨.int e.2.1 t :: fs, KatTups.cons g1 g2 g3 rfl k1, by rw [List.length_cons, k2, List.length_cons], fun v hv => ?_⟩
    rcases List.mem_cons.mp hv with rfl | hv
    · exact ⟨_, _, rfl⟩
    · exact k3 v hv
theorem c_sortedP : CallR X (.builtin "sorted") (rSortedP X.K) := by
  intro pins s σ H xs us Q I r h
  obtain ⟨p, q, rfl, hq, ht, nd, h64, k⟩ := h
  obtain ⟨u, rfl, rx⟩ := vals1 r
  cases rx
  obtain ⟨its, rv, pl, hz⟩ := I.list hq
  have e := refs_vals rv
  subst e
  have d : Addr × Int × Str := (0, 0, ⟨#[]⟩)
  have hlen : (q.map fun e => Value.ref e.1).length = q.length := List.length_map _
  have hg : ∀ i, i < q.length → (q.map fun e => Value.ref e.1).getD i Value.none = Value.ref (q.getD i d).1 := fun i hi => by simp [hi]
  have hm : ∀ i, i < q.length → q.getD i d ∈ q := fun i hi => by
    have e : q.getD i d = q[i] := by simp [hi]
    rw [e]
    exact List.getElem_mem hi
  have hpair : ∀ e ∈ q, PairAt s.heap e.1 e.2 := fun e he => by
    obtain ⟨_, its, r, o, h1, h2, n, h3⟩ := I.hok e.1 _ (ht e he)
    cases r with
    | cons r1 r2 =>
      cases r2 with
      | cons r2 r3 =>
        cases r3
        obtain ⟨t, rfl⟩ := r1
        obtain ⟨t2, rfl⟩ := r2
        exact ⟨o, t, t2, n, h1, h2, h3⟩
  refine sorted_kas (κ := tuples' true) (c := fun i j => pLt (q.getD i d).2 (q.getD j d).2) pl.isList (by rw [hlen]; exact h64) (by rw [hlen]; exact pLt_ord nd) (fun h2 h' kp => ⟨fun E' R hR => ?_, fun i j C hi hj hC => ?_⟩) fun ar h1 h2 => ?_
  · have kpp : ∀ e ∈ q, PairAt h' e.1 e.2 := fun e he => by
      obtain ⟨o, t, u, n, g1, g2, g3⟩ := hpair e he
      exact ⟨o, t, u, n, kp _ _ g1, g2, g3⟩
    obtain ⟨fs, k1, k2, k3⟩ := tups_of kpp
    refine kat_kind (s := { s with heap := h' }) (T := .type "int") k1 (by rw [k2]; rw [hlen] at h2; omega) (fun v hv => ?_) rfl hR
    obtain ⟨m, t, rfl⟩ := k3 v hv
    exact .now
  · rw [hlen] at hi hj
    unfold kas_ask
    rw [hg i hi, hg j hj]
    have kpp : ∀ e ∈ q, PairAt h' e.1 e.2 := fun e he => by
      obtain ⟨o, t, u, n, g1, g2, g3⟩ := hpair e he
      exact ⟨o, t, u, n, kp _ _ g1, g2, g3⟩
    exact pair_lt (s := { s with heap := h' }) (kpp _ (hm i hi)) (kpp _ (hm j hj)) hC
  · rw [hlen] at h1 h2
    obtain ⟨hp, hs⟩ := okP_out (d := d) h1 h2 (fun e f => pLt e.2 f.2 = true) fun i j hi hj z => z
    have eo : (ar.toList.map fun i => (q.map fun e => Value.ref e.1).getD i Value.none) = (ar.toList.map fun i => q.getD i d).map fun e => Value.ref e.1 := by
      rw [List.map_map]
      refine List.map_congr_left fun i hi => hg i ?_
      obtain ⟨j, hj, rfl⟩ := List.getElem_of_mem hi
      have hj' : j < ar.size := by simpa using hj
      have := h1.lt j (by rw [← h1.sz]; exact hj')
      rw [Array.getD_eq_getD_getElem?, Array.getElem?_eq_getElem hj'] at this
      rw [Array.getElem_toList]
      exact this
    rw [eo]
    generalize (ar.toList.map fun i => q.getD i d) = q' at hp hs
    obtain ⟨e, he⟩ := sortedAll_at s.heap (q.map fun e => Value.ref e.1) (List.toArray (q'.map fun e => Value.ref e.1))
    have hl2 : (q'.map fun e => V.ref e.1).length ≤ sizeLine := by
      rw [List.length_map, hp.length_eq, sizeLine_eq]
      omega
    have I1 : Inv X pins σ (upd H (s.heap.objs.size + 1) (.lst (q'.map fun e => V.ref e.1))) { s with heap := sortedAll s.heap (q.map fun e => Value.ref e.1) (List.toArray (q'.map fun e => Value.ref e.1)) } :=
      I.laid (t' := s.toks) (fun b o z => sortedAll_old z) (Nat.le_succ _) ⟨hl2, _, e, vals_refs q', he⟩
    exact ⟨.ref (s.heap.objs.size + 1), _, I1, rfl, k _ q' (I.hok.fresh (Nat.le_succ _)) hp hs⟩
end
end L2

namespace TR
section
variable {td : Nat → Nat → Bool}
/-! ## CR: the list of all crowds -/
theorem nodup_up {L : List Nat} (h : L.Pairwise (· < ·)) : L.Nodup := h.imp fun z => Nat.ne_of_lt z
theorem sub_of_up : ∀ {L C : List Nat}, L.Pairwise (· < ·) → C.Pairwise (· < ·) → (∀ c ∈ C, c ∈ L) → C.Sublist L
  | L, [], _, _, _ => List.nil_sublist _
  | [], c :: C, _, _, h => nomatch h c List.mem_cons_self
  | a :: L, c :: C, hL, hC, h => by
    obtain ⟨l1, l2⟩ := List.pairwise_cons.mp hL
    obtain ⟨c1, c2⟩ := List.pairwise_cons.mp hC
    by_cases e : c = a
    · subst e
      refine List.Sublist.cons_cons c (sub_of_up l2 c2 fun d hd => ?_)
      rcases List.mem_cons.mp (h d (List.mem_cons_of_mem _ hd)) with z | z
      · have := c1 d hd
        omega
      · exact z
    · have hca : c ∈ L := by
        rcases List.mem_cons.mp (h c List.mem_cons_self) with z | z
        · exact absurd z e
        · exact z
      have hac := l1 c hca
      refine List.Sublist.cons a (sub_of_up l2 hC fun d hd => ?_)
      rcases List.mem_cons.mp (h d hd) with z | z
      · rcases List.mem_cons.mp hd with y | y
        · omega
        · have := c1 d y
          omega
      · exact z
def cLt (a b : List Nat) : Prop := a.length < b.length ∨ (a.length = b.length ∧ a < b)
theorem cLt_irrefl (a : List Nat) : ¬ cLt a a := fun h => by
  rcases h with h | ⟨_, h⟩
  · exact Nat.lt_irrefl _ h
  · exact List.lt_irrefl _ h
theorem cLt_asymm {a b : List Nat} (h : cLt a b) : ¬ cLt b a := fun k => by
  rcases h with h | ⟨h1, h2⟩
  · rcases k with k | ⟨k1, _⟩
    · omega
    · omega
  · rcases k with k | ⟨k1, k2⟩
    · omega
    · exact List.lt_irrefl _ (List.lt_trans h2 k2)
/-- a crowd that can be written with L's letters, rising -/
def CrOf (td : Nat → Nat → Bool) (L C : List Nat) : Prop := C ≠ [] ∧ C.Pairwise (· < ·) ∧ (∀ c ∈ C, c ∈ L) ∧ ∀ a ∈ C, ∀ b ∈ C, a ≠ b → td a b = false
def IsCL (td : Nat → Nat → Bool) (L : List Nat) (CL : List (List Nat)) : Prop := CL.Pairwise cLt ∧ ∀ C, C ∈ CL ↔ CrOf td L C
theorem IsCL.nodup {L : List Nat} {CL : List (List Nat)} (h : IsCL td L CL) : CL.Nodup := h.1.imp fun {a b} z e => by subst e; exact cLt_irrefl _ z
theorem IsCL.one {L : List Nat} {A B : List (List Nat)} (h : IsCL td L A) (k : IsCL td L B) : A = B :=
  List.Perm.eq_of_pairwise (fun _ _ _ _ x y => absurd y (cLt_asymm x)) h.1 k.1 ((List.perm_ext_iff_of_nodup h.nodup k.nodup).mpr fun C => (h.2 C).trans (k.2 C).symm)
theorem nodup_subs : ∀ {L : List Nat}, L.Nodup → (subs L).Nodup
  | [], _ => by unfold subs; simp
  | a :: L, h => by
    obtain ⟨h1, h2⟩ := List.nodup_cons.mp h
    unfold subs
    have ih := nodup_subs h2
    refine List.nodup_append.mpr ⟨ih, nodup_map_inj ih fun x _ y _ e => (List.cons.inj e).2, fun x hx y hy e => ?_⟩
    subst e
    obtain ⟨z, _, rfl⟩ := List.mem_map.mp hy
    exact h1 ((subs_sub hx).subset List.mem_cons_self)
theorem sumI_perm {α : Type} (f : α → Int) {l m : List α} (h : l.Perm m) : sumI f l = sumI f m := by
  induction h with
  | nil => rfl
  | cons x _ ih => show f x + _ = f x + _; rw [ih]
  | swap x y l => show f y + (f x + sumI f l) = f x + (f y + sumI f l); omega
  | trans _ _ h1 h2 => rw [h1, h2]
theorem sumI_filter {α : Type} (f : α → Int) (p : α → Bool) : ∀ l : List α, sumI (fun x => if p x = true then f x else 0) l = sumI f (l.filter p)
  | [] => rfl
  | x :: l => by
    show (if p x = true then f x else 0) + sumI _ l = _
    rw [sumI_filter f p l, List.filter_cons]
    split
    · rfl
    · omega
theorem cl_perm {L : List Nat} {CL : List (List Nat)} (up : L.Pairwise (· < ·)) (h : IsCL td L CL) : ([] :: CL).Perm ((subs L).filter fun C => crowdB td C) := by
  have hL := nodup_up up
  refine (List.perm_ext_iff_of_nodup (List.nodup_cons.mpr ⟨fun z => ((h.2 []).mp z).1 rfl, h.nodup⟩) ((nodup_subs hL).filter _)).mpr fun C => ?_
  rw [List.mem_cons, List.mem_filter, h.2 C]
  constructor
  · rintro (rfl | ⟨_, h1, h2, h3⟩)
    · exact ⟨sub_subs (List.nil_sublist _), rfl⟩
    · exact ⟨sub_subs (sub_of_up up h1 h2), (crowdB_iff (nodup_up h1)).mpr ⟨nodup_up h1, h3⟩⟩
  · rintro ⟨h1, h2⟩
    have hs := subs_sub h1
    by_cases e : C = []
    · exact .inl e
    · exact .inr ⟨e, up.sublist hs, fun c hc => hs.subset hc, ((crowdB_iff (hL.sublist hs)).mp h2).2⟩
theorem subsLen : ∀ L, (subs L).length = 2 ^ L.length
  | [] => rfl
  | a :: L => by
    unfold subs
    rw [List.length_append, List.length_map, subsLen L, List.length_cons, Nat.pow_succ]
    omega
theorem IsCL.len {L : List Nat} {CL : List (List Nat)} (up : L.Pairwise (· < ·)) (h : IsCL td L CL) (h5 : L.length ≤ 5) : CL.length ≤ 31 := by
  have h1 := (cl_perm up h).length_eq
  have h2 : ((subs L).filter fun C => crowdB td C).length ≤ (subs L).length := List.length_filter_le _ _
  rw [subsLen] at h2
  have h3 : 2 ^ L.length ≤ 2 ^ 5 := Nat.pow_le_pow_right (by decide) h5
  rw [List.length_cons] at h1
  have h4 : (2 : Nat) ^ 5 = 32 := rfl
  omega
theorem CrOf.len {L C : List Nat} (h : CrOf td L C) : 1 ≤ C.length ∧ C.length ≤ L.length := by
  refine ⟨?_, nodup_len_le (nodup_up h.2.1) h.2.2.1⟩
  cases C with
  | nil => exact absurd rfl h.1
  | cons a C => show 1 ≤ C.length + 1; omega
/-- heaps of a length by the list of crowds -/
theorem by_list (T : Td td) {L : List Nat} {CL : List (List Nat)} (up : L.Pairwise (· < ·)) (h : IsCL td L CL) {n : Nat} (hn : 1 ≤ n) :
    (hp td L n : Int) + sumI (fun C => if C.length ≤ n then sg C.length * (hp td L (n - C.length) : Int) else 0) CL = 0 := by
  have h1 := by_crowds T (nodup_up up) hn
  have e : sumI (fun C => if crowdB td C = true ∧ C.length ≤ n then sg C.length * (hp td L (n - C.length) : Int) else 0) (subs L) =
      sumI (fun C => if crowdB td C = true then (if C.length ≤ n then sg C.length * (hp td L (n - C.length) : Int) else 0) else 0) (subs L) := sumI_congr fun C _ => by
    by_cases h1 : crowdB td C = true
    · rw [if_pos h1]
      by_cases h2 : C.length ≤ n
      · rw [if_pos ⟨h1, h2⟩, if_pos h2]
      · rw [if_neg (fun z => h2 z.2), if_neg h2]
    · rw [if_neg (fun z => h1 z.1), if_neg h1]
  rw [e, sumI_filter, ← sumI_perm _ (cl_perm up h)] at h1
  have e2 : sumI (fun C => if C.length ≤ n then sg C.length * (hp td L (n - C.length) : Int) else 0) ([] :: CL) = (if ([] : List Nat).length ≤ n then sg ([] : List Nat).length * (hp td L (n - ([] : List Nat).length) : Int) else 0) + sumI (fun C => if C.length ≤ n then sg C.length * (hp td L (n - C.length) : Int) else 0) CL := rfl
  rw [e2, if_pos (show ([] : List Nat).length ≤ n from Nat.zero_le _)] at h1
  have e3 : sg ([] : List Nat).length * (hp td L (n - ([] : List Nat).length) : Int) = (hp td L n : Int) := by
    show sg 0 * (hp td L (n - 0) : Int) = _
    rw [sg_zero, Int.one_mul, Nat.sub_zero]
  rw [e3] at h1
  exact h1
/-- the crowds of one length -/
def IsLev (td : Nat → Nat → Bool) (L : List Nat) (k : Nat) (l : List (List Nat)) : Prop := l.Pairwise (· < ·) ∧ ∀ C, C ∈ l ↔ C.length = k ∧ CrOf td L C
theorem lt_app : ∀ {a b : List Nat} (x y : List Nat), a.length = b.length → a < b → a ++ x < b ++ y
  | [], [], _, _, _, h => absurd h (List.lt_irrefl _)
  | [], _ :: _, _, _, h, _ => nomatch h
  | _ :: _, [], _, _, h, _ => nomatch h
  | a :: u, b :: v, x, y, h, k => by
    rw [List.cons_append, List.cons_append]
    rcases List.cons_lt_cons_iff.mp k with z | ⟨z1, z2⟩
    · exact List.cons_lt_cons_iff.mpr (.inl z)
    · exact List.cons_lt_cons_iff.mpr (.inr ⟨z1, lt_app x y (by simpa using h) z2⟩)
theorem app_lt : ∀ (u : List Nat) {x y : List Nat}, x < y → u ++ x < u ++ y
  | [], _, _, h => h
  | a :: u, _, _, h => List.cons_lt_cons_iff.mpr (.inr ⟨rfl, app_lt u h⟩)
theorem lev_one {L : List Nat} (up : L.Pairwise (· < ·)) : IsLev td L 1 (L.map fun c => [c]) := by
  refine ⟨?_, fun C => ?_⟩
  · rw [List.pairwise_map]
    exact up.imp fun h => List.cons_lt_cons_iff.mpr (.inl h)
  · rw [List.mem_map]
    constructor
    · rintro ⟨c, hc, rfl⟩
      refine ⟨rfl, List.cons_ne_nil _ _, by simp, fun d hd => by rw [List.mem_singleton.mp hd]; exact hc, fun a ha b hb ne => ?_⟩
      rw [List.mem_singleton.mp ha, List.mem_singleton.mp hb] at ne
      exact absurd rfl ne
    · rintro ⟨h1, h2⟩
      obtain ⟨c, rfl⟩ := List.length_eq_one_iff.mp h1
      exact ⟨c, h2.2.2.1 c List.mem_cons_self, rfl⟩
/-- what goes behind a crowd -/
def nexts (td : Nat → Nat → Bool) (L C : List Nat) : List (List Nat) := (L.filter fun c => decide (C.getLastD 0 < c) && C.all fun a => !td a c).map fun c => C ++ [c]
theorem getLastD_app (C : List Nat) (c : Nat) : (C ++ [c]).getLastD 0 = c := by simp
theorem lev_next (T : Td td) {L : List Nat} (up : L.Pairwise (· < ·)) {k : Nat} (hk : 1 ≤ k) {l : List (List Nat)} (h : IsLev td L k l) : IsLev td L (k + 1) (l.flatMap (nexts td L)) := by
  have len : ∀ {C D : List Nat}, D ∈ nexts td L C → ∃ c, D = C ++ [c] ∧ c ∈ L ∧ C.getLastD 0 < c ∧ ∀ a ∈ C, td a c = false := fun hD => by
    obtain ⟨c, hc, rfl⟩ := List.mem_map.mp hD
    rw [List.mem_filter, Bool.and_eq_true, decide_eq_true_iff, List.all_eq_true] at hc
    exact ⟨c, rfl, hc.1, hc.2.1, fun a ha => by simpa using hc.2.2 a ha⟩
  refine ⟨?_, fun E => ?_⟩
  · have go : ∀ m : List (List Nat), m.Pairwise (· < ·) → (∀ C ∈ m, C.length = k) → (m.flatMap (nexts td L)).Pairwise (· < ·) := fun m => by
      induction m with
      | nil => exact fun _ _ => List.Pairwise.nil
      | cons C m ih =>
        intro hp hl
        obtain ⟨p1, p2⟩ := List.pairwise_cons.mp hp
        rw [List.flatMap_cons, List.pairwise_append]
        refine ⟨?_, ih p2 fun D hD => hl D (List.mem_cons_of_mem _ hD), fun x hx y hy => ?_⟩
        · unfold nexts
          rw [List.pairwise_map]
          exact (up.filter _).imp fun z => app_lt C (List.cons_lt_cons_iff.mpr (.inl z))
        · obtain ⟨D, hD, hy⟩ := List.mem_flatMap.mp hy
          obtain ⟨c, rfl, _⟩ := len hx
          obtain ⟨d, rfl, _⟩ := len hy
          exact lt_app _ _ ((hl C List.mem_cons_self).trans (hl D (List.mem_cons_of_mem _ hD)).symm) (p1 D hD)
    exact go l h.1 fun C hC => ((h.2 C).mp hC).1
  · rw [List.mem_flatMap]
    have lastUp : ∀ {C : List Nat} {c : Nat}, C ≠ [] → C.Pairwise (· < ·) → (C.getLastD 0 < c ↔ ∀ a ∈ C, a < c) := fun {C c} hne hu => by
      obtain ⟨D, d, rfl⟩ : ∃ D d, C = D ++ [d] := ⟨C.dropLast, C.getLast hne, (List.dropLast_concat_getLast hne).symm⟩
      rw [getLastD_app]
      rw [List.pairwise_append] at hu
      constructor
      · intro h a ha
        rcases List.mem_append.mp ha with z | z
        · exact Nat.lt_trans (hu.2.2 a z d List.mem_cons_self) h
        · rw [List.mem_singleton.mp z]; exact h
      · exact fun h => h d (List.mem_append_right _ List.mem_cons_self)
    constructor
    · rintro ⟨C, hC, hE⟩
      obtain ⟨hl, hne, hu, hm, hc⟩ := (h.2 C).mp hC
      obtain ⟨c, rfl, cL, cl, ct⟩ := len hE
      have hlt := (lastUp hne hu).mp cl
      refine ⟨by rw [List.length_append, hl]; rfl, by simp, ?_, fun d hd => ?_, fun a ha b hb ne => ?_⟩
      · rw [List.pairwise_append]
        exact ⟨hu, by simp, fun a ha b hb => by rw [List.mem_singleton.mp hb]; exact hlt a ha⟩
      · rcases List.mem_append.mp hd with z | z
        · exact hm d z
        · rw [List.mem_singleton.mp z]; exact cL
      · rcases List.mem_append.mp ha with z | z
        · rcases List.mem_append.mp hb with y | y
          · exact hc a z b y ne
          · rw [List.mem_singleton.mp y]; exact ct a z
        · rcases List.mem_append.mp hb with y | y
          · rw [List.mem_singleton.mp z, T.s]; exact ct b y
          · rw [List.mem_singleton.mp z, List.mem_singleton.mp y] at ne
            exact absurd rfl ne
    · rintro ⟨hl, hne, hu, hm, hc⟩
      obtain ⟨C, c, rfl⟩ : ∃ C c, E = C ++ [c] := ⟨E.dropLast, E.getLast hne, (List.dropLast_concat_getLast hne).symm⟩
      have hlC : C.length = k := by simpa using hl
      have hneC : C ≠ [] := fun z => by rw [z] at hlC; simp at hlC; omega
      rw [List.pairwise_append] at hu
      have hcr : CrOf td L C := ⟨hneC, hu.1, fun d hd => hm d (List.mem_append_left _ hd), fun a ha b hb => hc a (List.mem_append_left _ ha) b (List.mem_append_left _ hb)⟩
      refine ⟨C, (h.2 C).mpr ⟨hlC, hcr⟩, List.mem_map.mpr ⟨c, List.mem_filter.mpr ⟨hm c (List.mem_append_right _ List.mem_cons_self), ?_⟩, rfl⟩⟩
      have hlt : ∀ a ∈ C, a < c := fun a ha => hu.2.2 a ha c List.mem_cons_self
      rw [Bool.and_eq_true, decide_eq_true_iff, List.all_eq_true]
      refine ⟨(lastUp hneC hu.1).mpr hlt, fun a ha => ?_⟩
      rw [hc a (List.mem_append_left _ ha) c (List.mem_append_right _ List.mem_cons_self) (Nat.ne_of_lt (hlt a ha))]
      rfl
/-- the crowds shorter than k, one length behind the other -/
def IsTo (td : Nat → Nat → Bool) (L : List Nat) (k : Nat) (f : List (List Nat)) : Prop := f.Pairwise cLt ∧ ∀ C, C ∈ f ↔ C.length < k ∧ CrOf td L C
theorem to_one {L : List Nat} : IsTo td L 1 [] := ⟨List.Pairwise.nil, fun C => ⟨fun z => (nomatch z), fun z => by have := z.2.len; omega⟩⟩
theorem to_next {L : List Nat} {k : Nat} {f l : List (List Nat)} (h : IsTo td L k f) (k' : IsLev td L k l) : IsTo td L (k + 1) (f ++ l) := by
  refine ⟨?_, fun C => ?_⟩
  · rw [List.pairwise_append]
    refine ⟨h.1, ?_, fun a ha b hb => .inl ?_⟩
    · refine List.Pairwise.imp_of_mem (fun {a b} ha hb z => ?_) k'.1
      exact .inr ⟨((k'.2 a).mp ha).1.trans ((k'.2 b).mp hb).1.symm, z⟩
    · rw [((k'.2 b).mp hb).1]
      exact ((h.2 a).mp ha).1
  · rw [List.mem_append, h.2, k'.2]
    constructor
    · rintro (⟨h1, h2⟩ | ⟨h1, h2⟩)
      · exact ⟨by omega, h2⟩
      · exact ⟨by omega, h2⟩
    · rintro ⟨h1, h2⟩
      by_cases e : C.length = k
      · exact .inr ⟨e, h2⟩
      · exact .inl ⟨by omega, h2⟩
theorem to_end {L : List Nat} {k : Nat} {f : List (List Nat)} (h : IsTo td L k f) (k' : IsLev td L k []) (hk : 1 ≤ k) : IsCL td L f := by
  refine ⟨h.1, fun C => ?_⟩
  rw [h.2]
  refine ⟨fun z => z.2, fun z => ⟨?_, z⟩⟩
  refine Classical.byContradiction fun hn => ?_
  -- its first k letters would be a crowd of k
  have ht : CrOf td L (C.take k) := by
    have hs := List.take_sublist k C
    refine ⟨fun e => ?_, z.2.1.sublist hs, fun c hc => z.2.2.1 c (hs.subset hc), fun a ha b hb => z.2.2.2 a (hs.subset ha) b (hs.subset hb)⟩
    have := congrArg List.length e
    rw [List.length_take] at this
    have h0 : ([] : List Nat).length = 0 := rfl
    omega
  have := (k'.2 (C.take k)).mpr ⟨by rw [List.length_take]; omega, ht⟩
  cases this
theorem cr_small {L : List Nat} {l : List (List Nat)} (up : L.Pairwise (· < ·)) (nd : l.Nodup) (h : ∀ C ∈ l, CrOf td L C) (h5 : L.length ≤ 5) : l.length ≤ 32 := by
  have h1 : ∀ C ∈ l, C ∈ subs L := fun C hC => sub_subs (sub_of_up up (h C hC).2.1 (h C hC).2.2.1)
  have h2 : l.length ≤ (subs L).length := by
    have : ∀ {l m : List (List Nat)}, l.Nodup → (∀ a ∈ l, a ∈ m) → l.length ≤ m.length := by
      intro l
      induction l with
      | nil => exact fun _ _ => Nat.zero_le _
      | cons a l ih =>
        intro m nd hm
        rw [List.nodup_cons] at nd
        have g1 := List.length_erase_of_mem (hm a List.mem_cons_self)
        have g2 := List.length_pos_of_mem (hm a List.mem_cons_self)
        have := ih (m := m.erase a) nd.2 fun b hb => (List.mem_erase_of_ne (fun z : b = a => nd.1 (z ▸ hb))).mpr (hm b (List.mem_cons_of_mem _ hb))
        rw [List.length_cons]
        omega
    exact this nd h1
  rw [subsLen] at h2
  exact Nat.le_trans h2 (Nat.pow_le_pow_right (by decide) h5)
theorem lev_small {L : List Nat} {k : Nat} {l : List (List Nat)} (up : L.Pairwise (· < ·)) (h : IsLev td L k l) (h5 : L.length ≤ 5) : l.length ≤ 32 :=
  cr_small up (h.1.imp fun {a b} z e => by subst e; exact List.lt_irrefl _ z) (fun C hC => ((h.2 C).mp hC).2) h5
theorem to_small {L : List Nat} {k : Nat} {l : List (List Nat)} (up : L.Pairwise (· < ·)) (h : IsTo td L k l) (h5 : L.length ≤ 5) : l.length ≤ 32 :=
  cr_small up (h.1.imp fun {a b} z e => by subst e; exact cLt_irrefl _ z) (fun C hC => ((h.2 C).mp hC).2) h5
/-- what is summed for each length -/
theorem sum_turns (L : List Nat) (n : Nat) : ∀ CL : List (List Nat), ((CL.filter fun C => decide ((C.length : Int) ≤ (n : Int))).map fun C => -(sg C.length) * (hp td L (n - C.length) : Int)).sum = - sumI (fun C => if C.length ≤ n then sg C.length * (hp td L (n - C.length) : Int) else 0) CL
  | [] => rfl
  | C :: CL => by
    have ih := sum_turns L n CL
    show _ = -((if C.length ≤ n then sg C.length * (hp td L (n - C.length) : Int) else 0) + sumI _ CL)
    rw [List.filter_cons]
    by_cases h : C.length ≤ n
    · rw [if_pos (decide_eq_true (Int.ofNat_le.mpr h)), if_pos h, List.map_cons, List.sum_cons, ih, Int.neg_mul]
      omega
    · rw [if_neg (by simpa using h), if_neg h, ih, Int.zero_add]
/-! ### letters by a number's bits -/
def mask : List Nat → Nat → List Nat
  | [], _ => []
  | a :: L, n => if n % 2 = 1 then a :: mask L (n / 2) else mask L (n / 2)
theorem mask_sub : ∀ (L : List Nat) (n : Nat), (mask L n).Sublist L
  | [], _ => List.Sublist.refl _
  | a :: L, n => by
    unfold mask
    split
    · exact List.Sublist.cons_cons a (mask_sub L _)
    · exact List.Sublist.cons a (mask_sub L _)
theorem mask_inj : ∀ {L : List Nat}, L.Nodup → ∀ {m n : Nat}, m < 2 ^ L.length → n < 2 ^ L.length → mask L m = mask L n → m = n
  | [], _, m, n, hm, hn, _ => by
    have : (2 : Nat) ^ ([] : List Nat).length = 1 := rfl
    omega
  | a :: L, nd, m, n, hm, hn, e => by
    obtain ⟨h1, h2⟩ := List.nodup_cons.mp nd
    rw [List.length_cons, Nat.pow_succ] at hm hn
    have hna : ∀ k, a ∉ mask L k := fun k z => h1 ((mask_sub L k).subset z)
    unfold mask at e
    by_cases e1 : m % 2 = 1
    · rw [if_pos e1] at e
      by_cases e2 : n % 2 = 1
      · rw [if_pos e2] at e
        have := mask_inj h2 (by omega) (by omega) (List.cons.inj e).2
        omega
      · rw [if_neg e2] at e
        exact absurd (e ▸ List.mem_cons_self) (hna (n / 2))
    · rw [if_neg e1] at e
      by_cases e2 : n % 2 = 1
      · rw [if_pos e2] at e
        exact absurd (e ▸ List.mem_cons_self) (hna (m / 2))
      · rw [if_neg e2] at e
        have := mask_inj h2 (by omega) (by omega) e
        omega
theorem mask_all {C L : List Nat} (h : C.Sublist L) : ∃ n, n < 2 ^ L.length ∧ mask L n = C := by
  induction h with
  | slnil => exact ⟨0, by decide, rfl⟩
  | @cons C L a _ ih =>
    obtain ⟨n, h1, h2⟩ := ih
    refine ⟨2 * n, by rw [List.length_cons, Nat.pow_succ]; omega, ?_⟩
    unfold mask
    rw [if_neg (by omega), show 2 * n / 2 = n by omega, h2]
  | @cons_cons C L a _ ih =>
    obtain ⟨n, h1, h2⟩ := ih
    refine ⟨2 * n + 1, by rw [List.length_cons, Nat.pow_succ]; omega, ?_⟩
    unfold mask
    rw [if_pos (by omega), show (2 * n + 1) / 2 = n by omega, h2]
theorem mask_zero : ∀ L : List Nat, mask L 0 = []
  | [] => rfl
  | a :: L => by
    unfold mask
    rw [if_neg (by decide)]
    exact mask_zero L
theorem mask_idx : ∀ (L : List Nat) (n j : Nat), ((L.zipIdx j).filter fun p => decide (n / 2 ^ p.2 % 2 = 1)).map (·.1) = mask L (n / 2 ^ j)
  | [], _, _ => rfl
  | a :: L, n, j => by
    rw [List.zipIdx_cons, List.filter_cons]
    have e : n / 2 ^ j / 2 = n / 2 ^ (j + 1) := by rw [Nat.div_div_eq_div_mul, Nat.pow_succ]
    unfold mask
    rw [e, ← mask_idx L n (j + 1)]
    by_cases h : n / 2 ^ j % 2 = 1
    · rw [if_pos h, if_pos (decide_eq_true h), List.map_cons]
    · rw [if_neg h, if_neg (by simpa using h)]
/-- the crowds among the first i masks -/
def ws (td : Nat → Nat → Bool) (L : List Nat) (i : Nat) : List (List Nat) := ((List.range i).map fun j => mask L (j + 1)).filter fun C => crowdB td C
theorem ws_succ (L : List Nat) (i : Nat) : ws td L (i + 1) = ws td L i ++ if crowdB td (mask L (i + 1)) = true then [mask L (i + 1)] else [] := by
  unfold ws
  rw [List.range_succ, List.map_append, List.filter_append]
  congr 1
  show List.filter _ [mask L (i + 1)] = _
  rw [List.filter_cons, List.filter_nil]
theorem ws_len (L : List Nat) (i : Nat) : (ws td L i).length ≤ i := by
  unfold ws
  refine Nat.le_trans (List.length_filter_le _ _) ?_
  rw [List.length_map, List.length_range]
  exact Nat.le_refl _
theorem ws_nodup {L : List Nat} (nd : L.Nodup) {i : Nat} (hi : i + 1 ≤ 2 ^ L.length) : (ws td L i).Nodup := by
  unfold ws
  refine List.Pairwise.filter _ ?_
  rw [List.pairwise_map, List.pairwise_iff_getElem]
  intro a b ha hb hab e
  rw [List.length_range] at ha hb
  rw [List.getElem_range, List.getElem_range] at e
  have := mask_inj nd (by omega) (by omega) e
  omega
theorem ws_mem {L : List Nat} (up : L.Pairwise (· < ·)) {C : List Nat} : C ∈ ws td L (2 ^ L.length - 1) ↔ CrOf td L C := by
  have nd := nodup_up up
  have hpos : 0 < 2 ^ L.length := Nat.pow_pos (by decide)
  unfold ws
  rw [List.mem_filter, List.mem_map]
  constructor
  · rintro ⟨⟨j, hj, rfl⟩, hc⟩
    rw [List.mem_range] at hj
    have hs := mask_sub L (j + 1)
    refine ⟨fun z => ?_, up.sublist hs, fun c hc => hs.subset hc, ((crowdB_iff (nd.sublist hs)).mp hc).2⟩
    have := mask_inj nd (m := j + 1) (n := 0) (by omega) hpos (by rw [z, mask_zero])
    omega
  · rintro ⟨h1, h2, h3, h4⟩
    obtain ⟨n, hn, rfl⟩ := mask_all (sub_of_up up h2 h3)
    have h0 : n ≠ 0 := fun z => by rw [z] at h1; exact h1 (mask_zero L)
    refine ⟨⟨n - 1, List.mem_range.mpr (by omega), by rw [show n - 1 + 1 = n by omega]⟩, (crowdB_iff (nodup_up h2)).mpr ⟨nodup_up h2, h4⟩⟩
theorem crowd_test {α : Type} (g : Nat → α) (C : List Nat) : ((C.filter fun a => !((C.filter fun b => !decide (a = b) && td a b).map g).isEmpty).map g).isEmpty = crowdB td C := by
  rw [List.isEmpty_map, Bool.eq_iff_iff, List.isEmpty_iff, List.filter_eq_nil_iff]
  unfold crowdB
  rw [List.all_eq_true]
  refine forall_congr' fun a => forall_congr' fun ha => ?_
  rw [List.isEmpty_map, Bool.not_eq_true', Bool.not_eq_false, List.isEmpty_iff, List.filter_eq_nil_iff, List.all_eq_true]
  refine forall_congr' fun b => forall_congr' fun hb => ?_
  cases decide (a = b) <;> cases td a b <;> simp
/-- each number of heaps is small enough to be told -/
theorem len_allW (L : List Nat) : ∀ n, (allW L n).length = L.length ^ n
  | 0 => rfl
  | n + 1 => by
    unfold allW
    rw [List.length_flatMap]
    have : ∀ l : List (List Nat), (l.map fun w => (L.map fun a => w ++ [a]).length).sum = l.length * L.length := fun l => by
      induction l with
      | nil => simp
      | cons w l ih => rw [List.map_cons, List.sum_cons, ih, List.length_map, List.length_cons, Nat.add_mul]; omega
    rw [this, len_allW L n, Nat.pow_succ]
end
end TR

namespace L2
open PySem PySem.Spec PyProof.Rows
/-! ## ExtW: sum(whole numbers); a comprehension over enumerate(a text) -/
theorem intsAre_get : ∀ {ns : List Int} {us : List Value}, Vals (ns.map V.int) us → ∀ (i : Nat) v, us[i]? = some v → ∃ t, v = .int (ns.getD i 0) t
  | [], us, r, i, v, e => by rw [List.map_nil] at r; cases r; cases e
  | n :: ns, us, r, i, v, e => by
    rw [List.map_cons] at r
    cases r with
    | cons r1 r2 =>
      cases i with
      | zero =>
        obtain ⟨t, rfl⟩ := r1
        exact ⟨t, by have : _ = v := Option.some.inj (by simpa using e); rw [← this]; rfl⟩
      | succ i => exact intsAre_get r2 i v (by simpa using e)
theorem preSum_list (ns : List Int) : ∀ k, k ≤ ns.length → preSum (fun i => ns.getD i 0) k = (ns.take k).sum
  | 0, _ => by rw [List.take_zero]; rfl
  | k + 1, h => by
    show preSum (fun i => ns.getD i 0) k + ns.getD k 0 = _
    rw [preSum_list ns k (by omega), List.take_add_one, List.getElem?_eq_getElem (by omega), List.sum_append]
    have e : ns.getD k 0 = ns[k] := by simp [show k < ns.length by omega]
    rw [e]
    show _ = _ + (ns[k] + 0)
    omega
section
variable {X : Cx}
theorem op_gt_str : OpR X (compareOp .Gt) (fun x y H Q => ∃ i j, x = .str i ∧ y = .str j ∧ Q (.bl (decide (j.cps.toList < i.cps.toList))) H) := by
  intro pins s σ H x y v u Q I rx ry h
  obtain ⟨i, j, rfl, rfl, q⟩ := h
  obtain ⟨t, rfl⟩ := rx
  obtain ⟨t', rfl⟩ := ry
  exact PySem.P.gt_str (fin_bl I q rfl)
def rSumI (K : PySem.W.Frag) : List V → Hp → VK → Prop := fun xs H Q => ∃ (p : Addr) (ns : List Int), xs = [.ref p] ∧ SqL K H p (ns.map V.int) ∧ Q (.int ns.sum) H
theorem c_sumI (hc : X.calm = true) : CallR X (.builtin "sum") (rSumI X.K) := by
  intro pins s σ H xs us Q I r h
  obtain ⟨p, ns, rfl, hq, q⟩ := h
  obtain ⟨u, rfl, rx⟩ := vals1 r
  cases rx
  obtain ⟨its, rv, pl, hz⟩ := I.list hq
  have hlen := rv.length
  rw [List.length_map] at hlen
  have hl := pl.isList
  have hlt : p < s.heap.objs.size := by obtain ⟨_, e, _⟩ := hl; exact Heap.lt_size e
  refine wpAny_with_toks (Nat.le_refl _) (call_sum_walkAnyS (wpAny_pyIter_list hl ?_))
  refine ⟨s.heap.objs.size, [s.heap.objs.size, p], [s.heap.objs.size], _, its.toArray.size, _, _, fun i => ns.getD i 0, rfl, (Walks.list (A := X.A.in1) (I.ok.hd hc) _ p (Nat.ne_of_lt hlt) its.toArray).toS,
    ⟨⟨_, Heap.get?_push_size _ rfl, rfl, rfl⟩, hl.push _⟩, fun b hb => ?_, fun i v hP => intsAre_get rv i v (by simpa using hP), fun s' t' hm htk => ?_⟩
  · have hz : (s.heap.push { cls := .type "list_iterator", data := .fields #[.ref p, .int 0 0] }).objs.size = s.heap.objs.size + 1 := Heap.size_push ..
    show b < (s.heap.push _).objs.size
    rw [hz]
    rcases List.mem_cons.mp hb with rfl | hb
    · exact Nat.lt_succ_self _
    · rw [List.mem_singleton.mp hb]
      exact Nat.lt_succ_of_lt hlt
  · obtain ⟨h', g', d', tk', os'⟩ := s'
    have e1 : g' = s.gens := hm.gens
    have e2 : d' = s.drawn := hm.drawn
    have e3 : os' = s.os := hm.os
    subst e1 e2 e3
    have kp : ∀ b o, s.heap.get? b = some o → h'.get? b = some o := fun b o z =>
      hm.heap b o (fun hb => absurd (Heap.lt_size z) ((List.mem_singleton.mp hb) ▸ Nat.lt_irrefl _)) (Heap.get?_push_of_some _ z)
    refine ⟨.int ns.sum, H, I.kept (t' := tk') kp htk, ⟨t', ?_⟩, q⟩
    rw [List.size_toArray, ← hlen, preSum_list ns _ (Nat.le_refl _), List.take_length]
end
/-- [.. for k, letter in enumerate(a text) if ..] -/
theorem comp_enum {K : PySem.W.Frag} {x : Str} {fr : List Nat} {tt : TT} {te : TE} {σ : St} {H1 : Hp} {D : Addr} {Q : VK} (hD : H1 D = none) (hz : x.length ≤ sizeLine)
    (p : Nat → Nat → Bool) (f : Nat → Nat → V)
    (ht : ∀ (i c : Nat) H' (Qb : Bool → Hp → Prop), x.cps.toList[i]? = some c → Same H1 H' → (∀ H'', Same H' H'' → Qb (p i c) H'') → tt (some (.int i) :: some (.str ⟨#[c]⟩) :: fr.map fun i => (σ[i]?).join) H' Qb)
    (he : ∀ (i c : Nat) H' (Qv : VK), x.cps.toList[i]? = some c → p i c = true → Same H1 H' → (∀ H'', Same H' H'' → Qv (f i c) H'') → te (some (.int i) :: some (.str ⟨#[c]⟩) :: fr.map fun i => (σ[i]?).join) H' Qv)
    (hQ : ∀ H', Same H1 H' → H' D = some (.lst (((x.cps.toList.zipIdx).filter fun e => p e.2 e.1).map fun e => f e.2 e.1)) → Q (.ref D) H') :
    CompW (Ite x) 2 fr (gTup K 2 (gCons (gName 0) (gCons (gName 1) gNil))) tt te σ H1 D Q := by
  have hxl : x.cps.toList.length = x.length := Array.length_toList
  refine ⟨fun i m τ H => m = x.length - i ∧ i ≤ x.length ∧ (∃ v w, τ = v :: w :: fr.map fun i => (σ[i]?).join) ∧ Same H1 H ∧ H D = some (.lst ((((x.cps.toList.take i).zipIdx).filter fun e => p e.2 e.1).map fun e => f e.2 e.1)),
    ⟨x.length, by simp, Nat.zero_le _, ⟨none, none, rfl⟩, same_new hD _, by rw [upd_same]; rfl⟩, ?_⟩
  rintro i m τ H ⟨rfl, hi, ⟨v0, w0, rfl⟩, sm, hys⟩
  by_cases hlt : i < x.length
  · refine .inr ⟨hlt, fun τ' H' => (∃ v w, τ' = v :: w :: fr.map fun i => (σ[i]?).join) ∧ Same H1 H' ∧ H' D = some (.lst ((((x.cps.toList.take (i + 1)).zipIdx).filter fun e => p e.2 e.1).map fun e => f e.2 e.1)),
      fun τ' H' n => ⟨x.length - (i + 1), by omega, rfl, hlt, n.1, n.2.1, n.2.2⟩, fun v H' y => ?_⟩
    obtain ⟨a, c, ha, hc, rfl, rfl⟩ := y
    have hc' : x.cps.toList[i]? = some c := by simpa using hc
    have sp : Same H (upd H a (.tup [.int i, .str ⟨#[c]⟩])) := same_new ha _
    refine ⟨a, _, rfl, SqT.of upd_same, rfl, _, _, rfl, _, _, rfl, rfl, ?_⟩
    show tt (some (.int i) :: some (.str ⟨#[c]⟩) :: fr.map fun i => (σ[i]?).join) _ _
    have ez : (x.cps.toList.take (i + 1)).zipIdx = (x.cps.toList.take i).zipIdx ++ [(c, i)] := by
      rw [List.take_add_one, hc', List.zipIdx_append]
      have : (x.cps.toList.take i).length = i := by rw [List.length_take]; omega
      show _ ++ (some c).toList.zipIdx (0 + _) = _
      rw [this, Nat.zero_add]
      rfl
    refine ht i c _ _ hc' (sm.trans sp) fun H3 sm3 => ?_
    have hys3 := sm3 _ _ (sp _ _ hys)
    cases hpx : p i c with
    | false =>
      rw [if_neg Bool.false_ne_true]
      refine ⟨⟨_, _, rfl⟩, (sm.trans sp).trans sm3, ?_⟩
      rw [ez, List.filter_append, List.filter_cons, List.filter_nil, hpx, if_neg Bool.false_ne_true, List.append_nil]
      exact hys3
    | true =>
      rw [if_pos rfl]
      refine he i c H3 _ hc' hpx ((sm.trans sp).trans sm3) fun H4 sm4 => ?_
      have hys4 := sm4 _ _ hys3
      have s4 := ((sm.trans sp).trans sm3).trans sm4
      refine ⟨_, hys4, ?_, ⟨_, _, rfl⟩, ⟨fun b o q => ?_, s4.ck⟩, ?_⟩
      · rw [List.length_map]
        have h2 : (((x.cps.toList.take i).zipIdx).filter fun e => p e.2 e.1).length ≤ ((x.cps.toList.take i).zipIdx).length := List.length_filter_le _ _
        rw [List.length_zipIdx, List.length_take] at h2
        omega
      · rw [upd_ne (ne_of_none q hD)]
        exact s4 b o q
      · rw [upd_same, ez, List.filter_append, List.filter_cons, List.filter_nil, hpx, if_pos rfl, List.map_append]
        rfl
  · have e : i = x.length := by omega
    subst e
    rw [← hxl, List.take_length] at hys
    exact .inl ⟨Nat.le_refl _, hQ H sm hys⟩
end L2

namespace HW
open PySem L2 PyProof.Rows
/-! ## PE: crowds, and heaps of a length -/
def spLonger : Sp := fun vs H Q _ => ∃ (g a : Addr) (L : List Nat) (T : List (List Nat)) (l : List (List Nat)) (k : Nat), vs = [.ref g, .ref a] ∧ Ground L T ∧ GAt H g L T ∧ H a = some (.lst (l.map tx)) ∧ 1 ≤ k ∧ TR.IsLev (tiedB T) L k l ∧
  ∀ (b : Addr) (H' : Hp), Same H H' → H b = none → H' b = some (.lst ((l.flatMap (TR.nexts (tiedB T) L)).map tx)) → Q (.ref b) H'
def spCrowds : Sp := fun vs H Q _ => ∃ (g : Addr) (L : List Nat) (T : List (List Nat)), vs = [.ref g] ∧ Ground L T ∧ GAt H g L T ∧
  ∀ (p : Addr) (CL : List (List Nat)) (H' : Hp), Same H H' → H' p = some (.tup (CL.map tx)) → TR.IsCL (tiedB T) L CL → Q (.ref p) H'
def spHeaps : Sp := fun vs H Q _ => ∃ (g : Addr) (L : List Nat) (T : List (List Nat)) (n : Nat), vs = [.ref g, .int (n : Int)] ∧ Ground L T ∧ GAt H g L T ∧ n ≤ 60 ∧ ∀ H', Same H H' → Q (.int (TR.hp (tiedB T) L n : Nat)) H'
def spSign : Sp := fun vs H Q _ => ∃ n : Nat, vs = [.int (n : Int)] ∧ ∀ H', Same H H' → Q (.int (-(TR.sg n))) H'
def spWhole : Sp := fun vs H Q _ => ∃ i : Int, vs = [.int i] ∧ ∀ H', Same H H' → Q (.bl true) H'
def spAllW : Sp := fun vs H Q _ => ∃ (L : List Nat) (n : Nat), vs = [tx L, .int (n : Int)] ∧ L.length ≤ 5 ∧ n ≤ 4 ∧ ∀ (p : Addr) (H' : Hp), Same H H' → H p = none → H' p = some (.lst ((TR.allW L n).map tx)) → Q (.ref p) H'
theorem nexts_len (td : Nat → Nat → Bool) (L : List Nat) : ∀ l : List (List Nat), (l.flatMap (TR.nexts td L)).length ≤ l.length * L.length
  | [] => Nat.zero_le _
  | C :: l => by
    rw [List.flatMap_cons, List.length_append, List.length_cons, Nat.add_mul]
    have h1 := nexts_len td L l
    have h2 : (TR.nexts td L C).length ≤ L.length := by
      unfold TR.nexts
      rw [List.length_map]
      exact List.length_filter_le _ _
    omega
theorem nexts_snoc (td : Nat → Nat → Bool) (L C : List Nat) (c : Nat) : TR.nexts td (L ++ [c]) C = TR.nexts td L C ++ if (decide (C.getLastD 0 < c) && C.all fun a => !td a c) = true then [C ++ [c]] else [] := by
  unfold TR.nexts
  rw [List.filter_append, List.map_append, List.filter_cons, List.filter_nil]
  split <;> rfl
theorem anyT_all (T : List (List Nat)) (C : List Nat) (c : Nat) : (!anyT T C [c]) = C.all fun a => !tiedB T a c := by
  unfold anyT
  rw [List.not_any_eq_all_not]
  congr 1
  funext a
  rw [List.any_cons, List.any_nil, Bool.or_false]
theorem atI_last {C : List Nat} (h : C ≠ []) : atI C (-1) = some (C.getLastD 0) := by
  obtain ⟨D, d, rfl⟩ : ∃ D d, C = D ++ [d] := ⟨C.dropLast, C.getLast h, (List.dropLast_concat_getLast h).symm⟩
  rw [TR.getLastD_app]
  unfold atI ixN
  rw [if_neg (by decide), List.length_append]
  have e : ((D.length + [d].length : Nat) : Int) = (D.length : Int) + 1 := by simp
  rw [e]
  rw [if_pos (by omega), show (-1 + ((D.length : Int) + 1)).toNat = D.length by omega]
  simp
theorem ch_lt (a b : Nat) : decide ((S [a]).cps.toList < (S [b]).cps.toList) = decide (a < b) := by
  rw [S_cps, S_cps]
  by_cases h : a < b
  · rw [decide_eq_true h]
    exact decide_eq_true (List.cons_lt_cons_iff.mpr (.inl h))
  · rw [decide_eq_false h]
    refine decide_eq_false fun z => ?_
    rcases List.cons_lt_cons_iff.mp z with y | ⟨_, y⟩
    · exact h y
    · exact List.lt_irrefl _ y
theorem map_tx_get {l : List (List Nat)} {i : Nat} {x : V} (hx : (l.map tx)[i]? = some x) : ∃ C, l[i]? = some C ∧ x = tx C := by
  rw [List.getElem?_map] at hx
  cases e : l[i]? with
  | none => rw [e] at hx; cases hx
  | some C => rw [e] at hx; exact ⟨C, rfl, (Option.some.inj hx).symm⟩
/-- how far the crowds have still to grow -/
def muH : Option HO → Nat
  | some (.lst (.str x :: _)) => 10 - x.length
  | _ => 0
def muV (H : Hp) : Option V → Nat
  | some (.ref a) => muH (H a)
  | _ => 0
def muC (σ : List (Option V)) (H : Hp) : Nat := muV H (σ[2]?).join
theorem muC_nil {g f a : Addr} {H : Hp} (h : H a = some (.lst [])) : muC [some (.ref g), some (.ref f), some (.ref a)] H = 0 := by
  show muH (H a) = 0
  rw [h]
  rfl
theorem muC_cons {g f a : Addr} {H : Hp} {C : List Nat} {l : List (List Nat)} (h : H a = some (.lst ((C :: l).map tx))) : muC [some (.ref g), some (.ref f), some (.ref a)] H = 10 - C.length := by
  show muH (H a) = _
  rw [h]
  show 10 - (S C).length = _
  rw [S_len]
theorem signs_ones (L : List Nat) : signsV (S L) = (L.map fun c => [c]).map tx := by
  unfold signsV
  rw [S_cps, List.map_map]
  rfl
end HW

namespace L2
open PySem PySem.Spec PyProof.Rows
/-! ## ExtN: a comprehension whose own name lies in a cell (a comprehension within it uses it) -/
def Cx.blkC (X : Cx) (N : List Str) (scope : Scope) (y : Str) (cl : List (Str × Addr)) (C : Addr) (fp : List Addr) (s : Shared) (H : Hp) : Cx :=
  { X.blk N scope ((y, C + 1) :: cl) C fp s H with fn := fun x => x == y }
def blkCB (xN : List Str) (xsc sc : Scope) (N : List Str) (k : Nat) (fr : List Nat) (y : Str) : Bool :=
  decide (sc.kind = .function) && sc.names.all (fun p => (!(p.2 == .cell) || p.1 == y) && (!(p.2 == .local) || (sc.names.lookup p.1 == some .local)) && (!(p.2 == .free) || (!(p.1 == y) && (xsc.names.lookup p.1 == some .cell || xsc.names.lookup p.1 == some .free))))
    && decide (N.length = k + fr.length) && (List.range fr.length).all (fun j => match fr[j]? with
      | some i => (match xN[i]? with
        | some x => decide (N[k + j]? = some x) && (sc.names.lookup x == some .free)
        | none => false)
      | none => false)
structure BlkC (xN : List Str) (xsc sc : Scope) (N : List Str) (k : Nat) (fr : List Nat) (y : Str) : Prop where
  kind : sc.kind = .function
  cell : ∀ p ∈ sc.names, p.2 = .cell → p.1 = y
  own : ∀ p ∈ sc.names, p.2 = .local → sc.names.lookup p.1 = some .local
  freeN : ∀ x, (x, NameKind.free) ∈ sc.names → x ≠ y
  free : ∀ x, (x, NameKind.free) ∈ sc.names → xsc.names.lookup x = some .cell ∨ xsc.names.lookup x = some .free
  len : N.length = k + fr.length
  at_ : ∀ j i, fr[j]? = some i → ∃ x, xN[i]? = some x ∧ N[k + j]? = some x ∧ sc.names.lookup x = some .free
theorem blkC_of {xN : List Str} {xsc sc : Scope} {N : List Str} {k : Nat} {fr : List Nat} {y : Str} (h : blkCB xN xsc sc N k fr y = true) : BlkC xN xsc sc N k fr y := by
  unfold blkCB at h
  rw [Bool.and_eq_true, Bool.and_eq_true, Bool.and_eq_true] at h
  obtain ⟨⟨⟨h1, h2⟩, h3⟩, h4⟩ := h
  have h2' := List.all_eq_true.mp h2
  refine ⟨of_decide_eq_true h1, fun p hp z => ?_, fun p hp z => ?_, fun x hx => ?_, fun x hx => ?_, of_decide_eq_true h3, fun j i e => ?_⟩
  · have q := h2' p hp
    rw [z] at q
    simpa using q
  · have q := h2' p hp
    rw [z] at q
    simpa using q
  · have q := h2' _ hx
    simp at q
    exact q.1
  · have q := h2' _ hx
    simp at q
    exact q.2
  · have hj : j < fr.length := (List.getElem?_eq_some_iff.mp e).1
    have q := List.all_eq_true.mp h4 j (List.mem_range.mpr hj)
    rw [e] at q
    dsimp only at q
    cases ex : xN[i]? with
    | none =>
      rw [ex] at q
      cases q
    | some x =>
      rw [ex] at q
      dsimp only at q
      rw [Bool.and_eq_true] at q
      exact ⟨x, rfl, of_decide_eq_true q.1, by simpa using q.2⟩
theorem relabel_backC {env : Env} {y : Str} : ∀ {names : List (Str × NameKind)} {x : Str}, (∀ p ∈ names, p.2 = NameKind.cell → p.1 = y) →
    ((names.map fun (n, k) => if (k == NameKind.free && env.scope.kind == .function && env.kindOf n == some .cell) then (n, NameKind.cell) else (n, k)).lookup x = some .cell ∨
    (names.map fun (n, k) => if (k == NameKind.free && env.scope.kind == .function && env.kindOf n == some .cell) then (n, NameKind.cell) else (n, k)).lookup x = some .free) → (x, NameKind.free) ∈ names ∨ x = y
  | [], _, _, h => by rcases h with h | h <;> cases h
  | (n, k) :: r, x, hc, h => by
    have ih := @relabel_backC env y r x (fun p hp => hc p (List.mem_cons_of_mem _ hp))
    have h' : List.lookup x ((if (k == NameKind.free && env.scope.kind == .function && env.kindOf n == some .cell) = true then (n, NameKind.cell) else (n, k)) :: (r.map fun (n, k) => if (k == NameKind.free && env.scope.kind == .function && env.kindOf n == some .cell) then (n, NameKind.cell) else (n, k))) = some .cell ∨
        List.lookup x ((if (k == NameKind.free && env.scope.kind == .function && env.kindOf n == some .cell) = true then (n, NameKind.cell) else (n, k)) :: (r.map fun (n, k) => if (k == NameKind.free && env.scope.kind == .function && env.kindOf n == some .cell) then (n, NameKind.cell) else (n, k))) = some .free := h
    cases hx : x == n with
    | true =>
      have ex : x = n := eq_of_beq hx
      split at h'
      · rename_i z
        rw [Bool.and_eq_true, Bool.and_eq_true] at z
        have ek : k = NameKind.free := eq_of_beq z.1.1
        rw [ex, ek]
        exact .inl List.mem_cons_self
      · rw [List.lookup_cons, hx] at h'
        rcases h' with q | q
        · exact .inr (ex.trans (hc (n, k) List.mem_cons_self (Option.some.inj q)))
        · have ek : k = NameKind.free := Option.some.inj q
          rw [ex, ek]
          exact .inl List.mem_cons_self
    | false =>
      have := ih (by
        split at h'
        · rw [List.lookup_cons, hx] at h'; exact h'
        · rw [List.lookup_cons, hx] at h'; exact h')
      rcases this with q | q
      · exact .inl (List.mem_cons_of_mem _ q)
      · exact .inr q
theorem newEnv_one {M : Model} {A : Around} {E : Value → Shared → Prop} {s : Shared} {scope : Scope} {globals : Addr} {cl : List (Str × Addr)} {qual : Str} {env : Env} {y : Str} {Q : Env → Shared → Prop}
    (hcf : ∀ n acc, cellsFrom n scope.names acc = (y, n) :: acc) (hpc : ∀ h : Heap, pushCells h scope.names = h.push { cls := .type "cell", data := .cell none }) (hk : scope.kind = .function)
    (hQ : Q (newEnv scope s.heap.objs.size globals ((y, s.heap.objs.size + 1) :: cl) qual none .none (some env) builtinsNs) { s with heap := (s.heap.push { cls := .type "dict", data := .dict #[] }).push { cls := .type "cell", data := .cell none } }) :
    wpAny M A (newFunctionEnv scope globals cl [] qual none .none (some env)) Q E s := by
  simp only [newFunctionEnv, Option.isSome_some, if_true]
  refine wpAny_bind (wpAny_alloc ?_)
  refine wpAny_bind (wpAny_layCells _ (fun name kind cells => by cases hkc : kind == NameKind.cell <;> simp [hkc]) _ _ _ _ ?_)
  rw [show ({ s with heap := s.heap.push { cls := .type "dict", data := .dict #[] } } : Shared).heap.objs.size = s.heap.objs.size + 1 from Heap.size_push .., hcf, hpc]
  rw [List.forIn_nil]
  exact wpAny_bind (wpAny_pure (wpAny_pure hQ))
theorem blk_startC {y : Str} {X : Cx} {pins : List (Addr × Obj)} {σ : St} {H : Hp} {s s4 : Shared} {N : List Str} {scope : Scope} {cl : List (Str × Addr)} {k : Nat} {fr : List Nat} {fp : List Addr} {C D : Addr}
    (B : BlkC X.N X.env.scope scope N k fr y) (I : Inv X pins σ H s) (hf : ∀ b ∈ fp, FpOk X pins H b) (hobj : ∀ b ∈ fp, ∃ o, s.heap.get? b = some o)
    (c1 : ∀ x c, cl.lookup x = some c → X.env.cells.lookup x = some c) (c2 : ∀ x, (x, NameKind.free) ∈ scope.names → ∃ c, cl.lookup x = some c)
    (hos : s4.os = s.os) (hg : Bar (upd H D (.lst [])) s4.gens s4.toks) (hC : s.heap.objs.size ≤ C) (hD : s.heap.objs.size ≤ D) (hCD : D ≠ C) (kp : ∀ b o, s.heap.get? b = some o → s4.heap.get? b = some o)
    (hns : s4.heap.Ns C fun _ => none) (hcy : s4.heap.IsCell (C + 1) none) (hDy : D ≠ C + 1) (hCy : H (C + 1) = none) (hl : s4.heap.get? D = some { cls := .type "list", data := .seq #[] }) :
    Inv (X.blkC N scope y cl C fp s H) [] (blk0 k fr σ) (upd H D (.lst [])) s4 := by
  have hDn : H D = none := I.hok.fresh hD
  have hCn : H C = none := I.hok.fresh hC
  have ne2 : ∀ b ∈ fp, b ≠ C := fun b hb z => by
    obtain ⟨o, e⟩ := hobj b hb
    have q := Nat.lt_of_lt_of_le (Heap.lt_size e) hC
    rw [z] at q
    exact Nat.lt_irrefl _ q
  have cltC : ∀ x c, cl.lookup x = some c → c < s.heap.objs.size := fun x c e => by
    obtain ⟨v, z⟩ := I.cell x c (c1 x c e)
    exact z.lt
  have yc : ∀ {x : Str} {c : Addr}, List.lookup x ((y, C + 1) :: cl) = some c → (x = y ∧ c = C + 1) ∨ (x ≠ y ∧ cl.lookup x = some c) := fun {x c} e => by
    rw [List.lookup_cons] at e
    cases hx : x == y with
    | true => rw [hx] at e; exact .inl ⟨eq_of_beq hx, (Option.some.inj e).symm⟩
    | false => rw [hx] at e; exact .inr ⟨(fun z => by rw [z, beq_self_eq_true] at hx; cases hx), e⟩
  have hbig : ∀ {c : Addr}, c = C + 1 → ¬ c < s.heap.objs.size := fun e h => by
    subst e
    exact absurd (Nat.lt_of_lt_of_le h hC) (Nat.not_lt.mpr (Nat.le_succ C))
  have ok : (X.blkC N scope y cl C fp s H).Ok :=
    { mod := I.ok.mod
      kind := B.kind
      glob := I.ok.glob
      blt := I.ok.blt
      above := hC
      inj := fun x z c e1 e2 => by
        rcases yc e1 with ⟨p1, f1⟩ | ⟨n1, f1⟩
        · rcases yc e2 with ⟨p2, _⟩ | ⟨_, f2⟩
          · rw [p1, p2]
          · exact absurd (cltC z c f2) (hbig f1)
        · rcases yc e2 with ⟨p2, f2⟩ | ⟨_, f2⟩
          · exact absurd (cltC x c f1) (hbig f2)
          · exact I.ok.inj x z c (c1 x c f1) (c1 z c f2)
      has := fun x hx => by
        by_cases hxy : (x == y) = true
        · exact ⟨C + 1, by show List.lookup x ((y, C + 1) :: cl) = _; rw [List.lookup_cons, hxy]⟩
        · rcases relabel_backC B.cell hx with z | z
          · obtain ⟨c, e⟩ := c2 x z
            exact ⟨c, by show List.lookup x ((y, C + 1) :: cl) = _; rw [List.lookup_cons, Bool.eq_false_iff.mpr hxy]; exact e⟩
          · exact absurd (by rw [z]; exact beq_self_eq_true _) hxy
      cab := fun x c z e => by
        have z : (x == y) = true := z
        rcases yc e with ⟨_, e⟩ | ⟨n, _⟩
        · show s.heap.objs.size ≤ c
          rw [e]
          exact Nat.le_succ_of_le hC
        · exact absurd (eq_of_beq z) n
      hd := I.ok.hd
      frames := I.ok.frames
      stk := .inl rfl
      exf := fun b hb => ⟨ne2 b hb, fun x c e => by
        rcases yc e with ⟨_, e⟩ | ⟨_, e⟩
        · intro z
          obtain ⟨o, q⟩ := hobj b hb
          exact hbig e (by rw [z]; exact Heap.lt_size q)
        · exact (hf b hb).2.2.2.2.1 x c (c1 x c e)⟩
      bs := I.bs
      bsz := Nat.le_trans I.ok.bsz I.sz
      noex := fun b o e hb => by
        rcases (hf b hb).2.2.2.1 with z | z
        · exact I.ok.noex b o e z
        · exact Nat.lt_irrefl _ (Nat.lt_of_lt_of_le (Heap.lt_size e) (Nat.le_trans I.ok.bsz z))
      exfs := fun b hb z => by
        obtain ⟨f0, f1, f2, _⟩ := hf b hb
        rcases List.mem_cons.mp (I.stkSub b z) with q | q
        · exact f1 q
        · exact f2 q
      funs := I.stack
      frf := I.stkFree }
  refine ⟨ok, hos, hg, Un.laid kp hD hDn, ⟨_, hns, fun i x v e1 e2 e3 => ?_⟩, fun x c e => ?_, ?_, fun x c e => ?_, fun p hp => absurd (show p ∈ ([] : List (Addr × Obj)) from hp) (by simp), I.hok.laid kp hD ⟨Nat.zero_le _, [], 0, .nil, hl⟩, ?_⟩
  · -- the names from around
    unfold blk0 at e2
    by_cases hik : i < k
    · rw [List.getElem?_append_left (by simpa using hik), List.getElem?_replicate] at e2
      split at e2 <;> cases e2
    · rw [List.getElem?_append_right (by simpa using hik), List.length_replicate, List.getElem?_map] at e2
      cases ej : fr[i - k]? with
      | none =>
        rw [ej] at e2
        cases e2
      | some i0 =>
        rw [ej] at e2
        have e2' : (σ[i0]?).join = some v := by simpa using e2
        obtain ⟨y, hy, hyN, hyf⟩ := B.at_ _ _ ej
        have ek : k + (i - k) = i := by omega
        rw [ek] at hyN
        have e1' : N[i]? = some x := e1
        rw [e1'] at hyN
        cases hyN
        have eσ : σ[i0]? = some (some v) := by
          cases q : σ[i0]? with
          | none => rw [q] at e2'; cases e2'
          | some u =>
            rw [q] at e2'
            have : u = some v := by simpa using e2'
            rw [this]
        obtain ⟨m, _, hloc⟩ := I.loc
        have hxf := B.free x (PySem.mem_of_lookup hyf)
        have hvis : Vis X.env.scope x := .inr hxf
        obtain ⟨u, ru, lk⟩ := hloc i0 x v hy eσ hvis
        refine ⟨u, ru, .inr ⟨relabel_free hyf, ?_⟩⟩
        rcases lk with ⟨z, _⟩ | ⟨_, c, ec, zc⟩
        · have z' : X.env.scope.names.lookup x = some .local := z
          rcases hxf with q | q
          · rw [q] at z'; cases z'
          · rw [q] at z'; cases z'
        · obtain ⟨c', ec'⟩ := c2 x (PySem.mem_of_lookup hyf)
          have : c = c' := Option.some.inj (ec.symm.trans (c1 x c' ec'))
          subst this
          exact ⟨c, by show List.lookup x ((y, C + 1) :: cl) = _; rw [List.lookup_cons, beq_eq_false_iff_ne.mpr (B.freeN x (PySem.mem_of_lookup hyf))]; exact ec', zc.keeps kp⟩
  · rcases yc e with ⟨_, rfl⟩ | ⟨_, e⟩
    · exact ⟨none, hcy⟩
    · obtain ⟨v, z⟩ := I.cell x c (c1 x c e)
      exact ⟨v, z.keeps kp⟩
  · show upd H D (.lst []) C = none
    rw [upd_ne hCD.symm]
    exact hCn
  · rcases yc e with ⟨_, rfl⟩ | ⟨_, e⟩
    · rw [upd_ne hDy.symm]
      exact hCy
    · have hne : c ≠ D := fun z => by
        have q := Nat.lt_of_lt_of_le (cltC x c e) hD
        rw [z] at q
        exact Nat.lt_irrefl _ q
      rw [upd_ne hne]
      exact I.freeC x c (c1 x c e)
  · show (blk0 k fr σ).length = N.length
    unfold blk0
    rw [List.length_append, List.length_replicate, List.length_map, B.len]

theorem wp_compC {y : Str} {X : Cx} {pins : List (Addr × Obj)} {σ : St} {H : Hp} {s : Shared} {elt tgt iter : Expr} {ifs : List Expr} {scope : Scope} {pos pos' : Pos} {N : List Str} {k : Nat} {fr : List Nat} {wi : TI} {g : TG} {tt : TT} {te : TE}
    {use : Option (Value → Sem Unit)} {R : VK} {Qv : Value → Shared → Prop}
    (B : BlkC X.N X.env.scope scope N k fr y) (hcf : ∀ n acc, cellsFrom n scope.names acc = (y, n) :: acc) (hpc : ∀ h : Heap, pushCells h scope.names = h.push { cls := .type "cell", data := .cell none }) (hc : X.calm = true) (hi : PI X tgt iter wi)
    (hg : ∀ cl C fp s H, PG (X.blkC N scope y cl C fp s H) tgt g) (ht : ∀ cl C fp s H, PTs (X.blkC N scope y cl C fp s H) ifs tt) (he : ∀ cl C fp s H, PE (X.blkC N scope y cl C fp s H) elt te)
    (I : Inv X pins σ H s) (h : tComp wi k fr g tt te σ H R)
    (fin : ∀ D H' s' C m, Inv X pins σ H' s' → FpOk X pins H' C → s'.heap.Ns C m → R (.ref D) H' → compPost (model X.prog X.w) X.A X.xe use Qv (.ref D) C (.ok .next) s')
    (hs : ∀ x, foldedSetIterable iter X.env x = pure x) :
    wpAny (model X.prog X.w) X.A (comprehension (.ListComp elt [⟨tgt, iter, ifs, 0⟩] scope pos) scope X.env pos' (newList []) false (eval iter X.env) use) Qv X.xe s := by
  obtain ⟨cl, hcl, c1, c2⟩ := closed (scope := scope) (env := X.env) fun x hx => I.ok.has x (B.free x hx)
  refine wpAny_comprehension_free rfl hs hcl B.kind B.own (thn (hi pins s σ H _ I h) fun v s1 h1 => thn h1 fun itv s2 h2 => ?_)
  obtain ⟨it, fp, tn, J, H2, e, I2, T, st2, f2, w2⟩ := h2
  subst e
  refine wpAny_newObj_type (newEnv_one hcf hpc B.kind ?_)
  dsimp only
  generalize hA : s2.heap.push { cls := .type "list", dict := none, data := .seq ([] : List Value).toArray } = hA2
  have hC : hA2.objs.size = s2.heap.objs.size + 1 := by rw [← hA, Heap.size_push]
  have hDC : s2.heap.objs.size ≠ hA2.objs.size := by rw [hC]; exact Nat.ne_of_lt (Nat.lt_succ_self _)
  generalize h4e : (hA2.push { cls := .type "dict", data := .dict #[] }).push { cls := .type "cell", data := .cell none } = h4
  have hsz : (hA2.push { cls := .type "dict", data := .dict #[] }).objs.size = hA2.objs.size + 1 := Heap.size_push ..
  have kp : ∀ b o, s2.heap.get? b = some o → h4.get? b = some o := fun b o q => by
    rw [← h4e]
    exact Heap.get?_push_of_some _ (Heap.get?_push_of_some _ (by rw [← hA]; exact Heap.get?_push_of_some _ q))
  have hns : h4.Ns hA2.objs.size fun _ => none := by
    rw [← h4e]
    exact (Heap.Ns.new hA2 (.type "dict")).keeps fun b o q => Heap.get?_push_of_some _ q
  have hcy : h4.IsCell (hA2.objs.size + 1) none := by
    rw [← h4e, ← hsz]
    exact ⟨_, Heap.get?_push_size _ rfl, rfl⟩
  have hlD : h4.get? s2.heap.objs.size = some { cls := .type "list", data := .seq #[] } := by
    rw [← h4e]
    exact Heap.get?_push_of_some _ (Heap.get?_push_of_some _ (by rw [← hA]; exact Heap.get?_push_size _ rfl))
  have ob2 : ∀ b ∈ fp, ∃ o, s2.heap.get? b = some o := fun b hb => let ⟨o, q, _⟩ := T.obj _ _ st2 b hb; ⟨o, q⟩
  obtain ⟨W, ⟨m0, w0⟩, turn⟩ := w2 s2.heap.objs.size I2.fresh
  have I4 : Inv (X.blkC N scope y cl hA2.objs.size fp s2 H2) [] (blk0 k fr σ) (upd H2 s2.heap.objs.size (.lst [])) { s2 with heap := h4 } :=
    blk_startC B I2 f2 ob2 c1 c2 rfl I2.bare (by rw [hC]; omega) (Nat.le_refl _) hDC kp hns hcy (by rw [hC]; exact Nat.ne_of_lt (Nat.lt_succ_of_lt (Nat.lt_succ_self _))) (I2.hok.fresh (by rw [hC]; exact Nat.le_succ_of_le (Nat.le_succ _))) hlD
  have tn4 : tn 0 h4 := T.keep _ _ _ st2 fun b _ o q => kp b o q
  have fpD : ∀ b ∈ fp, b ≠ s2.heap.objs.size := fun b hb z => by
    obtain ⟨o, q⟩ := ob2 b hb
    exact absurd (Heap.lt_size q) (by rw [z]; exact Nat.lt_irrefl _)
  -- what stays true of the iterator's objects within the block
  have stat : ∀ {H' : Hp}, (∀ b ∈ fp, H' b = none) → ∀ b ∈ fp, FpOk (X.blkC N scope y cl hA2.objs.size fp s2 H2) [] H' b := fun {H'} hn b hb => by
    obtain ⟨o, q⟩ := ob2 b hb
    have hlt := Heap.lt_size q
    exact ⟨hn b hb, by show b ≠ hA2.objs.size; rw [hC]; exact Nat.ne_of_lt (Nat.lt_succ_of_lt hlt), I4.ok.exfs b hb, .inl hb, fun x c ec => by
      have ec : List.lookup x ((y, hA2.objs.size + 1) :: cl) = some c := ec
      rw [List.lookup_cons] at ec
      cases hx : x == y with
      | true =>
        rw [hx] at ec
        have : hA2.objs.size + 1 = c := Option.some.inj ec
        intro z
        have h1 : hA2.objs.size + 1 < s2.heap.objs.size := by rw [this, z]; exact hlt
        rw [hC] at h1
        exact absurd h1 (Nat.not_lt.mpr (Nat.le_succ_of_le (Nat.le_succ _)))
      | false =>
        rw [hx] at ec
        exact (f2 b hb).2.2.2.2.1 x c (c1 x c ec), fun p hp => absurd (show p ∈ ([] : List (Addr × Obj)) from hp) (by simp)⟩
  have loop : ∀ s5 : Shared, s5 = { s2 with heap := h4 } →
      codeAny (model X.prog X.w) X.A (.compLoop (.ListComp elt [⟨tgt, iter, ifs, 0⟩] scope pos) 0 (.ref it) (.ref s2.heap.objs.size) (compEnvC scope ((y, hA2.objs.size + 1) :: cl) hA2.objs.size X.env)) (compPost (model X.prog X.w) X.A X.xe use Qv (.ref s2.heap.objs.size) hA2.objs.size) s5 := by
    rintro s5 rfl
    refine comp_loop (fun n s' => ∃ i τ H', Inv (X.blkC N scope y cl hA2.objs.size fp s2 H2) [] τ H' s' ∧ tn i s'.heap ∧ (∀ b ∈ fp, H' b = none) ∧ W i n τ H') ?_ m0 ⟨0, _, _, I4, tn4, fun b hb => by rw [upd_ne (fpD b hb)]; exact (f2 b hb).1, w0⟩
    rintro n s6 ⟨i, τ6, H6, I6, st6, fr6, w6⟩
    rcases turn i n τ6 H6 w6 with ⟨stop, qn⟩ | ⟨go, Nn, hN, step⟩
    · refine thn (T.done (X.blkC N scope y cl hA2.objs.size fp s2 H2) rfl rfl rfl hc i [] s6 τ6 H6 _ I6 (stat fr6) st6 stop) fun r s7 ⟨hr, I7⟩ => ?_
      subst hr
      obtain ⟨m, hm, _⟩ := id I7.loc
      have u7 : Un (frs X.stack) fp H2 H6 s2.heap s7.heap := I7.base
      have IX : Inv X pins σ H6 s7 := I2.call' I7.os u7 I7.hok I7.bare fun b hb => ⟨(f2 b hb).2.2.2.1, (f2 b hb).2.1, (f2 b hb).2.2.2.2.1, (f2 b hb).2.2.2.2.2⟩
      exact fin _ H6 s7 hA2.objs.size m IX (I2.fpOk (by rw [hC]; omega) I7.free) hm qn
    · refine thn (T.item (X.blkC N scope y cl hA2.objs.size fp s2 H2) rfl rfl rfl hc i [] s6 τ6 H6 _ I6 (stat fr6) st6 go) fun r s7 ⟨u, hr, h7⟩ => ?_
      subst hr
      refine thn h7 fun _ s8 ⟨x, H8, I8, r8, y8, st8, fr8⟩ => ?_
      have I8' := I8.pinned (stat fr8) (T.obj _ _ st8)
      refine thn (hg cl _ fp s2 H2 _ s8 τ6 H8 x u _ I8' r8 (step x H8 y8)) fun _ s9 ⟨τ9, H9, I9, q9⟩ => ?_
      refine thn (ht cl _ fp s2 H2 _ s9 τ9 H9 _ I9 q9) fun ok s10 ⟨H10, I10, q10⟩ => ?_
      have again : ∀ {τ' : St} {H' : Hp} {s' : Shared}, Inv (X.blkC N scope y cl hA2.objs.size fp s2 H2) ([] ++ pinsAt fp s8.heap) τ' H' s' → Nn τ' H' →
          ∃ m, m < n ∧ ∃ i τ H', Inv (X.blkC N scope y cl hA2.objs.size fp s2 H2) [] τ H' s' ∧ tn i s'.heap ∧ (∀ b ∈ fp, H' b = none) ∧ W i m τ H' := fun {τ' H' s'} I' n' => by
        obtain ⟨m', hm, w'⟩ := hN τ' H' n'
        refine ⟨m', hm, i + 1, τ', H', I'.unpinned, T.keep _ _ _ st8 fun b hb o q => (I'.pin (b, o) (List.mem_append_right _ (List.mem_append_right _ (mem_pinsAt hb q)))).1, fun b hb => ?_, w'⟩
        obtain ⟨o, q, d⟩ := T.obj _ _ st8 b hb
        exact (I'.pin (b, o) (List.mem_append_right _ (List.mem_append_right _ (mem_pinsAt hb q)))).2.1
      cases ok with
      | false =>
        rw [if_neg Bool.false_ne_true] at q10 ⊢
        exact again I10 q10
      | true =>
        rw [if_pos rfl] at q10 ⊢
        refine thn (he cl _ fp s2 H2 _ s10 τ9 H10 _ I10 q10) fun y s11 ⟨vy, H11, I11, r11, ys, hys, hz, n11⟩ => ?_
        refine thn (mt_append _ s11 τ9 H11 (.ref s2.heap.objs.size) [vy] (.ref s2.heap.objs.size) [y] (fun _ H' => Nn τ9 H') I11 rfl (.cons r11 .nil) ⟨_, ys, vy, rfl, rfl, hys, hz, n11⟩) fun z s12 ⟨_, H12, I12, _, n12⟩ => ?_
        exact again I12 n12
  exact codeAny_compStart_list (loop _ rfl) (T.self _ _ _ _ _ tn4 (loop _ rfl))

theorem pe_compC {y : Str} {X : Cx} {elt tgt iter : Expr} {ifs : List Expr} {scope : Scope} {pos : Pos} {N : List Str} {k : Nat} {fr : List Nat} {wi : TI} {g : TG} {tt : TT} {te : TE}
    (B : blkCB X.N X.env.scope scope N k fr y = true) (hcf : ∀ n acc, cellsFrom n scope.names acc = (y, n) :: acc) (hpc : ∀ h : Heap, pushCells h scope.names = h.push { cls := .type "cell", data := .cell none }) (hc : X.calm = true) (hi : PI X tgt iter wi)
    (hg : ∀ cl C fp s H, PG (X.blkC N scope y cl C fp s H) tgt g) (ht : ∀ cl C fp s H, PTs (X.blkC N scope y cl C fp s H) ifs tt) (he : ∀ cl C fp s H, PE (X.blkC N scope y cl C fp s H) elt te)
    (hs : ∀ x, foldedSetIterable iter X.env x = pure x := by intro _; rfl) :
    PE X (.ListComp elt [⟨tgt, iter, ifs, 0⟩] scope pos) (tComp wi k fr g tt te) := by
  intro pins s σ H Q I h
  rw [eval_ListComp]
  refine wp_compC (use := none) (R := Q) (blkC_of B) hcf hpc hc hi hg ht he I h (fun D H' s' C m I' f' hn q => ?_) hs
  refine ⟨m, hn, fun h' sb => ?_⟩
  obtain ⟨f0, f1, f2, f3, f4, f5⟩ := f'
  have I'' : Inv X pins σ H' { s' with heap := h' } := I'.turned (t' := s'.toks) (fun b o hb e => (sb.2 b hb).trans e) f0 f1 f3 f4 f5
  exact ⟨.ref D, H', I'', rfl, q⟩
theorem qe_compC {X : Cx} {elt tgt iter : Expr} {ifs : List Expr} {scope : Scope} {pos : Pos} {N : List Str} {k : Nat} {fr : List Nat} {wi : TI} {g : TG} {tt : TT} {te : TE} (y : Str)
    (B : blkCB X.N X.env.scope scope N k fr y = true) (hcf : ∀ n acc, cellsFrom n scope.names acc = (y, n) :: acc) (hpc : ∀ h : Heap, pushCells h scope.names = h.push { cls := .type "cell", data := .cell none }) (hc : X.calm = true) (hi : QI X tgt iter wi)
    (hg : ∀ cl C fp s H, QG (X.blkC N scope y cl C fp s H) tgt g) (ht : ∀ cl C fp s H, QTs (X.blkC N scope y cl C fp s H) ifs tt) (he : ∀ cl C fp s H, QE (X.blkC N scope y cl C fp s H) elt te)
    (hs : ∀ x, foldedSetIterable iter X.env x = pure x := by intro _; rfl) :
    QE X (.ListComp elt [⟨tgt, iter, ifs, 0⟩] scope pos) (tComp wi k fr g tt te) := ⟨pe_compC B hcf hpc hc hi.h (fun a b c d e => (hg a b c d e).h) (fun a b c d e => (ht a b c d e).h) (fun a b c d e => (he a b c d e).h) hs⟩
end L2

namespace K12
open PySem L2 HW PyProof.Rows
section
variable {P : Program} {w : World} {K : PySem.W.Frag} {mg : Str → Option Value} {base : Heap}
def top (i : Nat) : Stmt := PySem.Challenge.pw_heapwords_k12_whole_heaps_of_a_length.main.body.getD i (.Pass ⟨0, 0, 0, 0⟩)
/-! ### _law_cell(_law_script, _law_k) -/
abbrev sCell : Stmt := top 15
theorem scCell : FnScope ["_law_script", "_law_k"] ["_law_script", "_law_k"] (defScope sCell) := ⟨rfl, rfl, rfl, by decide +kernel, rfl, by decide +kernel, by decide +kernel⟩
theorem ok_Cell {f : Addr} {fd : FuncData} (F : Fun K "_law_cell" "_law_cell" sCell f fd)
    (m_len : mg "len" = none)   : FnOk P w K mg base CX0 1 f fd ["_law_script", "_law_k"] (spCell K) := by
  refine F.okQ scCell (fun vs H Q E h => ?_) (fun cdv A outer s H vs Q E hr h => ?_)
  · obtain ⟨a, ns, k, rfl, _⟩ := h
    rfl
  obtain ⟨a, ns, k, rfl, hS, h0, q⟩ := h
  refine ⟨_, (qss_cons (qs_if (qt_cmp op_lt (qv 1) (qe_callB (r := rLenSeq K) c_len_seq rfl m_len PySem.boot_len (qa_cons (qv 0) qa_nil)) (nomark _)) (qss_one (qs_ret (qe_ix (r := rIxL K) ix_list (qv 0) (qv 1)))) qss_nil)
    (qss_one (qs_ret qe_int))), ?_⟩
  refine ⟨_, rfl, _, rfl, a, _, rfl, .inl hS, _, _, rfl, rfl, _, rfl, ?_⟩
  refine ite2 (fun c => ?_) (fun c => ?_)
  · have c' : k < (((ns.map V.int).length : Nat) : Int) := of_decide_eq_true c
    rw [List.length_map] at c'
    have hk : k.toNat < ns.length := by omega
    have ek : k = ((k.toNat : Nat) : Int) := by omega
    have hq : atI (ns.map V.int) ((k.toNat : Nat) : Int) = some (.int ns[k.toNat]) := atI_nat (by rw [List.getElem?_map, List.getElem?_eq_getElem hk] <;> rfl)
    rw [← ek] at hq
    rw [List.getElem?_eq_getElem hk] at q
    exact ⟨_, rfl, _, rfl, a, _, k, _, rfl, rfl, hS, hq, q⟩
  · have c' : ¬ k < (((ns.map V.int).length : Nat) : Int) := of_decide_eq_false (Bool.eq_false_iff.mpr c)
    rw [List.length_map] at c'
    have hk : ns[k.toNat]? = none := List.getElem?_eq_none (by omega)
    rw [hk] at q
    exact q
/-! ### _law_mix(_law_cell_here, _law_prime, _law_many) -/
abbrev sMix : Stmt := top 16
theorem scMix : FnScope ["_law_cell_here", "_law_prime", "_law_many"] ["_law_cell_here", "_law_prime", "_law_many"] (defScope sMix) := ⟨rfl, rfl, rfl, by decide +kernel, rfl, by decide +kernel, by decide +kernel⟩
theorem ok_Mix {f : Addr} {fd : FuncData} (F : Fun K "_law_mix" "_law_mix" sMix f fd)
       : FnOk P w K mg base CX0 1 f fd ["_law_cell_here", "_law_prime", "_law_many"] spMix := by
  refine F.okQ scMix (fun vs H Q E h => ?_) (fun cdv A outer s H vs Q E hr h => ?_)
  · obtain ⟨c, p, n, rfl, _⟩ := h
    rfl
  obtain ⟨c, p, n, rfl, hp, hn, q⟩ := h
  refine ⟨_, (qss_one (qs_ret (qe_op op_mod (qe_op op_mod (qe_op op_mul (qv 0) qe_int) (qv 1)) (qv 2)))), ?_⟩
  exact ⟨_, rfl, _, _, rfl, rfl, .inr ⟨by decide, by decide⟩, _, rfl, _, _, rfl, rfl, hp, _, rfl, _, _, rfl, rfl, hn, q⟩
/-! ### _law_letters(_law_script) -/
abbrev sLetters : Stmt := top 17
theorem scLetters : FnScope ["_law_script", "_law_signs", "_law_seed", "_law_found", "_law_k"] ["_law_script"] (defScope sLetters) := ⟨rfl, rfl, rfl, by decide +kernel, rfl, by decide +kernel, by decide +kernel⟩
theorem ok_Letters {f : Addr} {fd : FuncData} (F : Fun K "_law_letters" "_law_letters" sLetters f fd)
    {fCell : Addr} {fdCell : FuncData} (GCell : FnOk P w K mg base CX0 1 fCell fdCell ["_law_script", "_law_k"] (spCell K)) (bCell : Binds K fdCell ["_law_script", "_law_k"] []) (kCell : PySem.W.keepIn K (.ref fCell) = true) (mCell : mg "_law_cell" = some (.ref fCell))
    {fMix : Addr} {fdMix : FuncData} (GMix : FnOk P w K mg base CX0 1 fMix fdMix ["_law_cell_here", "_law_prime", "_law_many"] spMix) (bMix : Binds K fdMix ["_law_cell_here", "_law_prime", "_law_many"] []) (kMix : PySem.W.keepIn K (.ref fMix) = true) (mMix : mg "_law_mix" = some (.ref fMix))
    (m_len : mg "len" = none) (m_list : mg "list" = none) (m_range : mg "range" = none) (m_sorted : mg "sorted" = none)   : FnOk P w K mg base CX0 2 f fd ["_law_script"] (spLetters K) := by
  refine F.okQ scLetters (fun vs H Q E h => ?_) (fun cdv A outer s H vs Q E hr h => ?_)
  · obtain ⟨a, ns, rfl, _⟩ := h
    rfl
  obtain ⟨a, ns, rfl, hS, q⟩ := h
  refine ⟨_, (qss_cons (qs_set (i := 1) scLetters.nd rfl (Or.inl rfl) (qe_callTy (call_listS rfl) rfl m_list (by decide +kernel) (qa_cons qe_bump qa_nil)))
    (qss_cons (qs_set (i := 2) scLetters.nd rfl (Or.inl rfl) (qe_call GCell hr rfl mCell kCell bCell .nil pass0 (qa_cons (qv 0) (qa_cons qe_int qa_nil))))
    (qss_cons (qs_set (i := 3) scLetters.nd rfl (Or.inl rfl) (qe_lst qa_nil))
    (qss_cons (qs_for PassesOwn.never rfl (qi_range1 rfl m_range (qa_cons (qe_op op_add qe_int (qe_call GMix hr rfl mMix kMix bMix .nil pass0 (qa_cons (qv 2) (qa_cons qe_int (qa_cons qe_int qa_nil))))) qa_nil)) (qg_name (i := 4) scLetters.nd rfl (Or.inl rfl))
      (qss_one (qs_expr (qe_bm K PySem.F.plainAttrs_list PySem.F.slot_list_append PySem.F.type_list_append mt_append (qv 3) (qa_cons (qe_bm K PySem.F.plainAttrs_list PySem.F.slot_list_pop PySem.F.type_list_pop mt_popAt (qv 1) (qa_cons (qe_call GMix hr rfl mMix kMix bMix .nil pass0 (qa_cons (qe_op op_add (qv 2) (qe_op op_mul qe_int (qv 4))) (qa_cons qe_int (qa_cons (qe_callB (r := rLenSeq K) c_len_seq rfl m_len PySem.boot_len (qa_cons (qv 1) qa_nil)) qa_nil)))) qa_nil)) qa_nil)))))
    (qss_one (qs_ret (qe_bm K (r := rJoin K) PySem.F.plainAttrs_str PySem.F.slot_str_join PySem.F.type_str_join mt_join qe_str (qa_cons (qe_callB (r := rSortedS K) c_sorted rfl m_sorted boot_sorted (qa_cons (qv 3) qa_nil)) qa_nil)))))))), ?_⟩
  -- a token is drawn
  refine fun n0 hc0 hn0 => ?_
  have s00 := same_bump hc0
  replace q := fun L H' (sx : Same (H.bump n0) H') hL => q L H' (s00.trans sx) (Nat.le_trans hn0 sx.ck) hL
  replace hS := s00.seq hS
  clear s00
  revert q hS
  generalize H.bump n0 = H
  intro q hS
  -- signs = list(..)
  refine ⟨_, rfl, by rw [e_abc, S_len]; exact small (by decide), fun sgA hsg => ?_⟩
  rw [e_abc, signsV_S]
  have s1 : Same H (upd H sgA (.lst (abc.map chV))) := same_new hsg _
  -- seed
  refine ⟨_, rfl, a, ns, 0, rfl, s1.seq hS, Int.le_refl 0, ?_⟩
  generalize (ns[(0 : Int).toNat]?).getD 0 = seed
  -- found
  refine ⟨by show 0 ≤ sizeLine; omega, fun fdA hfd => ?_⟩
  have nsf : sgA ≠ fdA := fun z => by subst z; rw [upd_same] at hfd; cases hfd
  have s2 : Same H (upd (upd H sgA (.lst (abc.map chV))) fdA (.lst [])) := s1.trans (same_new hfd _)
  have hfd0 : H fdA = none := s1.free hfd
  -- the loop
  obtain ⟨b0, b1⟩ := mix_bounds seed 9973 5 (by decide)
  refine ⟨_, rfl, seed, 9973, 5, rfl, by decide, by decide, _, _, rfl, rfl, _, rfl, by omega, by omega, ?_⟩
  generalize hm : seed * 48271 % 9973 % 5 = m at b0 b1
  refine for_range (lo := 0) (n := (1 + m).toNat) (fun i σ H2 => ∃ (sg fd : List Nat) (v : Option V), σ = [some (.ref a), some (.ref sgA), some (.int seed), some (.ref fdA), v] ∧ Same H H2 ∧ H2 sgA = some (.lst (sg.map chV)) ∧ H2 fdA = some (.lst (fd.map chV)) ∧ (sg ++ fd).Perm abc ∧ fd.length = i)
    ⟨abc, [], none, rfl, s2, by rw [upd_ne nsf, upd_same], upd_same, by rw [List.append_nil], rfl⟩ ?_ ?_
  · rintro i σ H2 hi ⟨sg, fd', v, rfl, sm, h1, h2, hp, hl⟩
    have hlen : sg.length + fd'.length = 26 := by
      have := hp.length_eq
      rw [List.length_append] at this
      exact this
    have hsl : (sg.map chV).length = sg.length := List.length_map _
    obtain ⟨c0, c1⟩ := mix_bounds (seed + 7 * (0 + (i : Int))) 9967 ((sg.length : Nat) : Int) (by omega)
    show ∃ v, _ ∧ _
    refine ⟨_, rfl, .inl ⟨rfl, _, SqL.of h2⟩, _, rfl, .inl ⟨rfl, _, SqL.of h1⟩, _, rfl, _, rfl, _, _, rfl, rfl, .inl ⟨by decide, by decide⟩, _, _, rfl, rfl, _, rfl, sgA, _, rfl, .inl (SqL.of h1), _, _, _, rfl, by decide, by rw [hsl]; omega, ?_⟩
    rw [hsl]
    generalize hj : (seed + 7 * (0 + (i : Int))) * 48271 % 9967 % ((sg.length : Nat) : Int) = j at c0 c1
    have hjn : j.toNat < sg.length := by omega
    have ej : seqIndex? j (sg.map chV).length = some j.toNat := by rw [hsl]; exact (ixN_seq (n := sg.length) (i := j) (j := j.toNat) (by unfold ixN; rw [if_pos c0, if_pos c1])).1
    refine ⟨sgA, _, j, j.toNat, chV sg[j.toNat], rfl, rfl, h1, by omega, by omega, ej, by rw [List.getElem?_map, List.getElem?_eq_getElem hjn] <;> rfl, ?_⟩
    have h2' : upd H2 sgA (.lst ((sg.map chV).eraseIdx j.toNat)) fdA = some (.lst (fd'.map chV)) := by rw [upd_ne nsf.symm]; exact h2
    refine ⟨fdA, _, _, rfl, rfl, h2', by rw [List.length_map]; exact Nat.lt_of_lt_of_le (by omega : fd'.length < 100) (small (by decide)), ?_⟩
    refine ⟨sg.eraseIdx j.toNat, fd' ++ [sg[j.toNat]], _, rfl, ⟨fun b o z => ?_, sm.ck⟩, ?_, ?_, ?_, ?_⟩
    · have n1 : b ≠ sgA := ne_of_none z hsg
      have n2 : b ≠ fdA := ne_of_none z hfd0
      rw [upd_ne n2, upd_ne n1]
      exact sm b o z
    · rw [upd_ne nsf, upd_same]
      congr 2
      exact erase_map _ _ _
    · rw [upd_same, List.map_append]
      rfl
    · have q1 : (sg.eraseIdx j.toNat ++ [sg[j.toNat]]).Perm sg := pop_perm (List.getElem?_eq_getElem hjn)
      have q2 : (sg.eraseIdx j.toNat ++ (fd' ++ [sg[j.toNat]])).Perm (sg.eraseIdx j.toNat ++ ([sg[j.toNat]] ++ fd')) := List.Perm.append_left _ List.perm_append_comm
      refine q2.trans ?_
      rw [← List.append_assoc]
      exact (q1.append_right fd').trans hp
    · rw [List.length_append, hl]
      rfl
  · rintro σ H2 ⟨sg, fd', v, rfl, sm, h1, h2, hp, hl⟩
    have hnd : (sg ++ fd').Nodup := hp.nodup_iff.mpr abc_nodup
    have nd : fd'.Nodup := (List.nodup_append.mp hnd).2.1
    refine ⟨rfl, _, rfl, fdA, fd'.map (fun c => S [c]), rfl, SqL.of (by rw [h2, List.map_map]; rfl), by rw [List.length_map]; omega, fun l ss' hl' hpm hso => ?_⟩
    obtain ⟨L, e, hL, hup⟩ := sorted_codes hpm hso nd
    subst e
    have hLl : L.length = fd'.length := hL.length_eq
    rw [e_empty]
    refine ⟨S [], l, L.map (fun c => S [c]), rfl, rfl, SqL.of upd_same, ?_, ?_⟩
    · rw [sum_signs, S_nil, Nat.mul_zero]
      omega
    · rw [join_signs]
      refine q L _ (sm.trans (same_new hl' _)) ⟨by omega, by omega, hup, fun c hc => ?_⟩
      exact abc_az c (hp.mem_iff.mp (List.mem_append_right _ (hL.mem_iff.mp hc)))
/-! ### _law_ground(_law_script) -/
abbrev sGround : Stmt := top 18
theorem scGround : FnScope ["_law_script", "_law_letters_here", "_law_share", "_law_ties", "_law_k", "_law_one", "_law_n", "_law_other"] ["_law_script"] (defScope sGround) := ⟨rfl, rfl, rfl, by decide +kernel, rfl, by decide +kernel, by decide +kernel⟩
theorem ok_Ground {f : Addr} {fd : FuncData} (F : Fun K "_law_ground" "_law_ground" sGround f fd)
    {fLetters : Addr} {fdLetters : FuncData} (GLetters : FnOk P w K mg base CX0 2 fLetters fdLetters ["_law_script"] (spLetters K)) (bLetters : Binds K fdLetters ["_law_script"] []) (kLetters : PySem.W.keepIn K (.ref fLetters) = true) (mLetters : mg "_law_letters" = some (.ref fLetters))
    {fCell : Addr} {fdCell : FuncData} (GCell : FnOk P w K mg base CX0 1 fCell fdCell ["_law_script", "_law_k"] (spCell K)) (bCell : Binds K fdCell ["_law_script", "_law_k"] []) (kCell : PySem.W.keepIn K (.ref fCell) = true) (mCell : mg "_law_cell" = some (.ref fCell))
    {fMix : Addr} {fdMix : FuncData} (GMix : FnOk P w K mg base CX0 1 fMix fdMix ["_law_cell_here", "_law_prime", "_law_many"] spMix) (bMix : Binds K fdMix ["_law_cell_here", "_law_prime", "_law_many"] []) (kMix : PySem.W.keepIn K (.ref fMix) = true) (mMix : mg "_law_mix" = some (.ref fMix))
    (m_enumerate : mg "enumerate" = none) (m_tuple : mg "tuple" = none)   : FnOk P w K mg base CX0 3 f fd ["_law_script"] (spGround K) := by
  refine F.okQ scGround (fun vs H Q E h => ?_) (fun cdv A outer s H vs Q E hr h => ?_)
  · obtain ⟨a, ns, rfl, _⟩ := h
    rfl
  obtain ⟨a, ns, rfl, hS, q⟩ := h
  have hr1 : Room 1 _ := hr.mono (by decide)
  refine ⟨_, (qss_cons (qs_set (i := 1) scGround.nd rfl (Or.inl rfl) (qe_call GLetters hr rfl mLetters kLetters bLetters .nil pass0 (qa_cons (qv 0) qa_nil)))
    (qss_cons (qs_set (i := 2) scGround.nd rfl (Or.inl rfl) (qe_call GMix hr1 rfl mMix kMix bMix .nil pass0 (qa_cons (qe_call GCell hr1 rfl mCell kCell bCell .nil pass0 (qa_cons (qv 0) (qa_cons qe_int qa_nil))) (qa_cons qe_int (qa_cons qe_int qa_nil)))))
    (qss_cons (qs_set (i := 3) scGround.nd rfl (Or.inl rfl) (qe_lst qa_nil))
    (qss_cons (qs_for PassesOwn.never rfl (qi_enumS rfl m_enumerate (qa_cons (qv 1) qa_nil)) (qg_tup K rfl (qgs_cons (qg_name (i := 4) scGround.nd rfl (Or.inl rfl)) (qgs_cons (qg_name (i := 5) scGround.nd rfl (Or.inl rfl)) qgs_nil)))
      (qss_one (qs_for PassesOwn.never rfl (qi_enumS rfl m_enumerate (qa_cons (qe_slice sl_str (qv 1) (qo_some (qe_op op_add (qv 4) qe_int)) qo_none) qa_nil)) (qg_tup K rfl (qgs_cons (qg_name (i := 6) scGround.nd rfl (Or.inl rfl)) (qgs_cons (qg_name (i := 7) scGround.nd rfl (Or.inl rfl)) qgs_nil)))
      (qss_one (qs_if (qt_cmp op_lt (qe_call GMix hr1 rfl mMix kMix bMix .nil pass0 (qa_cons (qe_op op_add (qe_op op_add (qe_call GCell hr1 rfl mCell kCell bCell .nil pass0 (qa_cons (qv 0) (qa_cons qe_int qa_nil))) (qe_op op_mul qe_int (qv 4))) (qe_op op_mul qe_int (qv 6))) (qa_cons qe_int (qa_cons qe_int qa_nil)))) (qv 2) (nomark _)) (qss_one (qs_expr (qe_bm K PySem.F.plainAttrs_list PySem.F.slot_list_append PySem.F.type_list_append mt_append (qv 3) (qa_cons (qe_op op_add_str (qv 5) (qv 7)) qa_nil)))) qss_nil)))))
    (qss_one (qs_ret (qe_tup (qa_cons (qv 1) (qa_cons (qe_callTy (r := rTupOf K) c_tuple_of rfl m_tuple (by decide +kernel) (qa_cons (qv 3) qa_nil)) qa_nil))))))))), ?_⟩
  -- letters_here
  refine ⟨_, rfl, a, ns, rfl, hS, fun L H1 s1 hk1 hL => ?_⟩
  replace q := fun L T g H' (sx : Same H1 H') G GA => q L T g H' (s1.trans sx) G GA
  have hS1 := s1.seq hS
  -- share
  refine ⟨_, rfl, a, ns, 0, rfl, hS1, Int.le_refl 0, _, 9949, 6, rfl, by decide, by decide, ?_⟩
  generalize (ns[(0 : Int).toNat]?).getD 0 * 48271 % 9949 % 6 = share
  -- ties
  refine ⟨by show 0 ≤ sizeLine; omega, fun tA htA => ?_⟩
  have s2 : Same H1 (upd H1 tA (.lst [])) := same_new htA _
  have tfree  : H1 tA = none := htA
  have hl5 : L.length ≤ 5 := hL.l5
  refine ⟨_, rfl, _, rfl, for_enumS (x := S L) (fun i σ H2 => ∃ (T : List (List Nat)) (v4 v5 v6 v7 : Option V), σ = [some (.ref a), some (tx L), some (.int share), some (.ref tA), v4, v5, v6, v7] ∧ Same H1 H2 ∧ H2 tA = some (.lst (T.map tx)) ∧ Sofar L i 0 T)
    ⟨[], none, none, none, none, rfl, s2, upd_same, ⟨fun _ z => (nomatch z), List.Pairwise.nil, Nat.zero_le _⟩⟩ ?_ ?_⟩
  · rintro i c p σ H2 hc hp ⟨T, v4, v5, v6, v7, rfl, sm, hT, so⟩
    have hc' : L[i]? = some c := by simpa using hc
    have hi : i < L.length := (List.getElem?_eq_some_iff.mp hc').1
    have sm3 : Same H1 (upd H2 p (.tup [.int i, .str ⟨#[c]⟩])) := sm.trans (same_new hp _)
    have hT3 : upd H2 p (.tup [.int i, .str ⟨#[c]⟩]) tA = some (.lst (T.map tx)) := by rw [upd_ne (ne_of_none hT hp)]; exact hT
    refine ⟨p, _, rfl, SqT.of upd_same, rfl, _, _, rfl, _, _, rfl, rfl, ?_⟩
    refine ⟨_, rfl, _, rfl, _, _, rfl, rfl, _, rfl, S L, rfl, by rw [S_len]; exact small (by omega), _, rfl, ?_⟩
    have ei : (i : Int) + 1 = ((i + 1 : Nat) : Int) := by omega
    rw [ei, slice_from]
    refine for_enumS (x := S (L.drop (i + 1))) (fun n σ H4 => ∃ (T : List (List Nat)) (v6 v7 : Option V), σ = [some (.ref a), some (tx L), some (.int share), some (.ref tA), some (.int i), some (chV c), v6, v7] ∧ Same H1 H4 ∧ H4 tA = some (.lst (T.map tx)) ∧ Sofar L i n T)
      ⟨T, v6, v7, rfl, sm3, hT3, so⟩ ?_ ?_
    · rintro n d p2 σ H4 hd hp2 ⟨T4, w6, w7, rfl, sm4, hT4, so4⟩
      have hd' : (L.drop (i + 1))[n]? = some d := by simpa using hd
      have hnl : n < (L.drop (i + 1)).length := (List.getElem?_eq_some_iff.mp hd').1
      rw [List.length_drop] at hnl
      have sm5 : Same H1 (upd H4 p2 (.tup [.int n, .str ⟨#[d]⟩])) := sm4.trans (same_new hp2 _)
      have hT5 : upd H4 p2 (.tup [.int n, .str ⟨#[d]⟩]) tA = some (.lst (T4.map tx)) := by rw [upd_ne (ne_of_none hT4 hp2)]; exact hT4
      have htl := so4.tl
      refine ⟨p2, _, rfl, SqT.of upd_same, rfl, _, _, rfl, _, _, rfl, rfl, ?_⟩
      refine ⟨_, rfl, a, ns, 1, rfl, sm5.seq hS1, by decide, _, rfl, _, _, rfl, rfl, .inl ⟨by decide, by decide⟩, _, _, rfl, rfl, _, rfl, _, _, rfl, rfl, .inl ⟨by decide, by decide⟩, _, _, rfl, rfl, _, 9941, 6, rfl, by decide, by decide, _, rfl, _, _, rfl, rfl, _, rfl, ?_⟩
      refine ite2 (fun _ => ?_) (fun _ => ?_)
      · refine ⟨_, rfl, .inl ⟨rfl, _, SqL.of hT5⟩, _, rfl, _, rfl, _, _, rfl, rfl, by rw [S_len, S_len]; exact small (by show 2 ≤ 100000; decide), tA, _, _, rfl, rfl, hT5, by rw [List.length_map]; exact Nat.lt_of_le_of_lt htl (Nat.lt_of_lt_of_le (by omega : 5 * i + n < 100) (small (by decide))), ?_⟩
        refine ⟨T4 ++ [[c, d]], _, _, rfl, ⟨fun b o z => ?_, sm5.ck⟩, ?_, so4.add hL.up hc' hd'⟩
        · rw [upd_ne (ne_of_none z tfree)]
          exact sm5 b o z
        · rw [upd_same, List.map_append]
          have e : S [c] ++ S [d] = S [c, d] := S_app [c] [d]
          show some (HO.lst (T4.map tx ++ [V.str (S [c] ++ S [d])])) = _
          rw [e]
          rfl
      · exact ⟨T4, _, _, rfl, sm5, hT5, so4.more⟩
    · rintro σ H4 ⟨T4, w6, w7, rfl, sm4, hT4, so4⟩
      have el : (S (L.drop (i + 1))).length ≤ 5 := by rw [S_len, List.length_drop]; omega
      exact ⟨T4, _, _, _, _, rfl, sm4, hT4, so4.next el hi⟩
  · rintro σ H2 ⟨T, v4, v5, v6, v7, rfl, sm, hT, so⟩
    refine ⟨_, rfl, _, rfl, tA, _, rfl, .inl ⟨SqL.of hT, fun tt htt => ⟨by show 2 ≤ sizeLine; exact small (by decide), fun g hg => ?_⟩⟩⟩
    have ng : tt ≠ g := fun z => by subst z; rw [upd_same] at hg; cases hg
    rw [S_len] at so
    refine q L T g _ (sm.trans ((same_new htt _).trans (same_new hg _))) ⟨hL, fun z hz => ?_, so.tu, by have := so.tl; omega⟩ ⟨tt, upd_same, by rw [upd_ne ng, upd_same], Nat.le_trans hk1 sm.ck⟩
    obtain ⟨x, y, e, h1, h2, h3⟩ := so.ti z hz
    refine ⟨x, y, e, h1, ?_, h2⟩
    rcases h3 with y' | y'
    · exact List.mem_of_mem_take y'
    · exact List.mem_of_getElem? y'.1
end
end K12

namespace K12
open PySem L2 HW PyProof.Rows
section
variable {P : Program} {w : World} {K : PySem.W.Frag} {mg : Str → Option Value} {base : Heap}
/-! ### _law_tied(_law_ground_here, _law_one, _law_other) -/
abbrev sLTied : Stmt := top 20
theorem scLTied : FnScope ["_law_ground_here", "_law_one", "_law_other"] ["_law_ground_here", "_law_one", "_law_other"] (defScope sLTied) := ⟨rfl, rfl, rfl, by decide +kernel, rfl, by decide +kernel, by decide +kernel⟩
theorem ok_LTied {f : Addr} {fd : FuncData} (F : Fun K "_law_tied" "_law_tied" sLTied f fd)
    (m_max : mg "max" = none) (m_min : mg "min" = none)   : FnOk P w K mg base CX0 1 f fd ["_law_ground_here", "_law_one", "_law_other"] spTied := by
  refine F.okQ scLTied (fun vs H Q E h => ?_) (fun cdv A outer s H vs Q E hr h => ?_)
  · obtain ⟨g, L, T, a, b, rfl, _⟩ := h
    rfl
  obtain ⟨g, L, T, a, b, rfl, G, ⟨t, h1, h2, _⟩, q⟩ := h
  refine ⟨_, (qss_one (qs_ret (qe_or (qe_cmp op_eq (qv 1) (qv 2) (nomark _)) (qe_one (qe_cmp (r := rIn K false) op_in_seq (qe_op op_add_str (qe_callB (call_minS rfl) rfl m_min (by decide +kernel) (qa_cons (qv 1) (qa_cons (qv 2) qa_nil))) (qe_callB (call_maxS rfl) rfl m_max (by decide +kernel) (qa_cons (qv 1) (qa_cons (qv 2) qa_nil)))) (qe_ix (r := rIxT K) ix_tup (qv 0) qe_int) rfl))))), ?_⟩
  refine ⟨_, rfl, _, rfl, rfl, _, rfl, ?_⟩
  unfold tiedB at q
  show if decide (chV a = chV b) = true then _ else _
  rw [ch_dec]
  cases e1 : decide (a = b) with
  | true =>
    rw [e1] at q
    exact iteT q
  | false =>
    rw [e1, Bool.false_or] at q
    refine iteF ⟨_, rfl, _, rfl, S [a], S [b], rfl, _, rfl, _, rfl, S [a], S [b], rfl, ?_⟩
    rw [min_ch, max_ch]
    refine ⟨_, _, rfl, rfl, by rw [S_len, S_len]; exact small (by show 2 ≤ 100000; decide), _, rfl, g, _, 1, .ref t, rfl, rfl, SqT.of h1, rfl, t, _, rfl, .inr (SqT.of h2), rfl, flat_tx T, ?_⟩
    show Q (.bl (inV (V.str (S [min a b] ++ S [max a b])) (T.map tx))) H
    rw [S_app, inV_tx]
    exact q
/-! ### _law_whole(_law_found) -/
abbrev sWhole : Stmt := top 24
theorem scWhole : FnScope ["_law_found"] ["_law_found"] (defScope sWhole) := ⟨rfl, rfl, rfl, by decide +kernel, rfl, by decide +kernel, by decide +kernel⟩
theorem ok_Whole {f : Addr} {fd : FuncData} (F : Fun K "_law_whole" "_law_whole" sWhole f fd)
    (m_bool : mg "bool" = none) (m_int : mg "int" = none) (m_isinstance : mg "isinstance" = none)  (kib : PySem.W.kitOne K (.type "int") (.type "bool") = some false) : FnOk P w K mg base CX0 1 f fd ["_law_found"] spWhole := by
  refine F.okQ scWhole (fun vs H Q E h => ?_) (fun cdv A outer s H vs Q E hr h => ?_)
  · obtain ⟨i, rfl, _⟩ := h
    rfl
  obtain ⟨i, rfl, q⟩ := h
  refine ⟨_, (qss_one (qs_ret (qe_and (qe_callB (r := rIsInst K) c_isinst rfl m_isinstance (by decide +kernel) (qa_cons (qv 0) (qa_cons (qe_bltn (v := .ty "int") rfl m_int (by decide +kernel) rfl) qa_nil))) (qe_one (qe_not (qe_callB (r := rIsInst K) c_isinst rfl m_isinstance (by decide +kernel) (qa_cons (qv 0) (qa_cons (qe_bltn (v := .ty "bool") rfl m_bool (by decide +kernel) rfl) qa_nil)))))))), ?_⟩
  refine ⟨_, rfl, _, "int", .type "int", true, rfl, .int i, if_pos (beq_self_eq_true _), _, rfl, ?_⟩
  exact iteT ⟨_, rfl, _, "bool", .type "int", false, rfl, .int i, kib, _, rfl, q H (Same.refl _)⟩
/-! ### _law_all(_law_letters_here, _law_size) -/
abbrev sAllW : Stmt := top 25
theorem scAllW : FnScope ["_law_letters_here", "_law_size", "_law_found", "_law_k", "_law_more", "_law_word_here"] ["_law_letters_here", "_law_size"] (defScope sAllW) := ⟨rfl, rfl, rfl, by decide +kernel, rfl, by decide +kernel, by decide +kernel⟩
theorem ndAllW_0 : (["_law_letter", "_law_word_here"] : List Str).Nodup := by decide +kernel
theorem ok_AllW {f : Addr} {fd : FuncData} (F : Fun K "_law_all" "_law_all" sAllW f fd)
    (m_range : mg "range" = none)   : FnOk P w K mg base CX0 1 f fd ["_law_letters_here", "_law_size"] spAllW := by
  refine F.okQ scAllW (fun vs H Q E h => ?_) (fun cdv A outer s H vs Q E hr h => ?_)
  · obtain ⟨L, n, rfl, _⟩ := h
    rfl
  obtain ⟨L, n, rfl, hl5, hn, q⟩ := h
  refine ⟨_, (qss_cons (qs_set (i := 2) scAllW.nd rfl (Or.inl rfl) (qe_lst (qa_cons qe_str qa_nil)))
    (qss_cons (qs_for PassesOwn.never rfl (qi_range1 rfl m_range (qa_cons (qv 1) qa_nil)) (qg_name (i := 3) scAllW.nd rfl (Or.inl rfl))
      (qss_cons (qs_set (i := 4) scAllW.nd rfl (Or.inl rfl) (qe_lst qa_nil))
    (qss_cons (qs_for PassesOwn.never rfl (qi_list K (qv 2)) (qg_name (i := 5) scAllW.nd rfl (Or.inr rfl))
      (qss_one (qs_expr (qe_bm K PySem.F.plainAttrs_list PySem.F.slot_list_extend PySem.F.type_list_extend mt_extend (qv 4) (qa_cons (qe_comp (N := ["_law_letter", "_law_word_here"]) (k := 1) (fr := [5]) (by kernel_rfl) rfl (qi_str (qv 0)) (fun _ _ _ _ _ => qg_name (i := 0) ndAllW_0 rfl (Or.inl rfl)) (fun _ _ _ _ _ => qts_nil) (fun _ _ _ _ _ => (qe_op op_add_str (qv 1) (qv 0)))) qa_nil)))))
    (qss_one (qs_set (i := 2) scAllW.nd rfl (Or.inl rfl) (qv 4))))))
    (qss_one (qs_ret (qv 2))))), ?_⟩
  rw [e_empty]
  refine ⟨by show 1 ≤ sizeLine; exact small (by decide), fun fA hfA => ?_⟩
  refine ⟨_, rfl, n, rfl, by omega, by omega, ?_⟩
  rw [show ((n : Nat) : Int).toNat = n from Int.toNat_natCast _]
  refine for_range (lo := 0) (n := n) (fun i σ H2 => ∃ (f : Addr) (x3 x4 x5 : Option V), σ = [some (tx L), some (.int n), some (.ref f), x3, x4, x5] ∧ Same H H2 ∧ H f = none ∧ H2 f = some (.lst ((TR.allW L i).map tx)))
    ⟨fA, none, none, none, rfl, same_new hfA _, hfA, by rw [upd_same]; rfl⟩ ?_ ?_
  · rintro i σ H2 hi ⟨f, x3, x4, x5, rfl, sm, hf0, hf⟩
    have hal : (TR.allW L i).length ≤ 125 := by
      rw [TR.len_allW]
      have h1 : L.length ^ i ≤ 5 ^ i := Nat.pow_le_pow_left hl5 i
      have h2 : 5 ^ i ≤ 5 ^ 3 := Nat.pow_le_pow_right (by decide) (by omega)
      exact Nat.le_trans h1 h2
    refine ⟨by show 0 ≤ sizeLine; omega, fun mA hmA => ?_⟩
    have sM : Same H2 (upd H2 mA (.lst [])) := same_new hmA _
    have hf3 := sM _ _ hf
    have hmA0 : H mA = none := sm.free hmA
    have nfm : f ≠ mA := fun z => by subst z; rw [hf] at hmA; cases hmA
    refine ⟨_, rfl, f, rfl, ⟨_, SqL.of hf3⟩, ?_⟩
    refine for_list (K := K) (a := f) (xs := (TR.allW L i).map tx) (fun j σ H4 => ∃ x5 : Option V, σ = [some (tx L), some (.int n), some (.ref f), some (.int ((0 : Int) + (i : Int))), some (.ref mA), x5] ∧ Same H H4 ∧ H4 f = some (.lst ((TR.allW L i).map tx)) ∧ H4 mA = some (.lst ((((TR.allW L i).take j).flatMap fun w => L.map fun a => w ++ [a]).map tx)))
      ⟨x5, rfl, sm.trans sM, hf3, by rw [upd_same]; rfl⟩ (fun _ _ _ _ ⟨_, _, _, h, _⟩ => SqL.of h) ?_ ?_
    · rintro j x σ H4 hx ⟨y5, rfl, sm4, hf4, hm4⟩
      obtain ⟨C, hC, rfl⟩ := map_tx_get hx
      have hCl := (TR.mem_allW.mp (List.mem_of_getElem? hC)).1
      refine ⟨_, rfl, .inl ⟨rfl, _, SqL.of hm4⟩, _, rfl, S L, rfl, fun D hD => ?_⟩
      refine comp_val (α := Nat) (as_ := L) (fr := [5]) (by rw [signsV_length, S_len]) yields_str hD (by rw [signsV_length, S_len]; exact small (by omega)) (fun _ => true) (fun c => tx (C ++ [c])) (fun j x d H' Qb hx hd sm' k => k H' (Same.refl _)) (fun j x d H' Qv hx hd _ sm' k => ?_) fun H5 s5 hd5 => ?_
      · rw [signsV_S] at hx
        cases getI_map hx hd
        refine ⟨_, rfl, _, rfl, _, _, rfl, rfl, by rw [S_len]; exact small (by show _ + 1 ≤ 100000; omega), ?_⟩
        have ea : S C ++ S [d] = S (C ++ [d]) := S_app C [d]
        show Qv (V.str (S C ++ S [d])) H'
        rw [ea]
        exact k H' (Same.refl _)
      · rw [filter_yes] at hd5
        have hm5 := s5 _ _ hm4
        have hb : (((TR.allW L i).take j).flatMap fun w => L.map fun a => w ++ [a]).length ≤ 625 := by
          have key : ∀ l : List (List Nat), (l.flatMap fun w => L.map fun a => w ++ [a]).length = l.length * L.length := fun l => by
            induction l with
            | nil => simp
            | cons w l ih => rw [List.flatMap_cons, List.length_append, ih, List.length_map, List.length_cons, Nat.add_mul]; omega
          rw [key]
          have h1 : ((TR.allW L i).take j).length ≤ 125 := by rw [List.length_take]; omega
          exact Nat.le_trans (Nat.mul_le_mul h1 hl5) (by decide)
        refine ⟨mA, D, _, _, rfl, rfl, hm5, hd5, by rw [List.length_map, List.length_map]; exact small (by omega), ?_⟩
        refine ⟨_, rfl, same_put hmA0 (sm4.trans s5) _, by rw [upd_ne nfm]; exact s5 _ _ hf4, ?_⟩
        rw [upd_same, List.take_add_one, hC, List.flatMap_append, List.map_append]
        show some (HO.lst (_ ++ L.map fun c => tx (C ++ [c]))) = some (HO.lst (_ ++ ((L.map fun a => C ++ [a]) ++ []).map tx))
        rw [List.append_nil, List.map_map]
        rfl
    · rintro σ H4 ⟨y5, rfl, sm4, hf4, hm4⟩
      rw [List.length_map, List.take_length] at hm4
      exact ⟨_, rfl, mA, _, _, _, rfl, sm4, hmA0, hm4⟩
  · rintro σ H2 ⟨f, x3, x4, x5, rfl, sm, hf0, hf⟩
    exact ⟨_, rfl, q f H2 sm hf0 hf⟩
end
end K12

namespace K12
open PySem L2 HW PyProof.Rows
section
variable {P : Program} {w : World} {K : PySem.W.Frag} {mg : Str → Option Value} {base : Heap}
/-! ### _law_crowds(_law_ground_here) -/
abbrev sLCrowds : Stmt := top 26
theorem scLCrowds : FnScope ["_law_ground_here", "_law_found", "_law_number", "_law_one"] ["_law_ground_here"] (defScope sLCrowds) := ⟨rfl, rfl, rfl, by decide +kernel, rfl, by decide +kernel, by decide +kernel⟩
theorem ndLCrowds_0 : (["_law_k", "_law_letter", "_law_number"] : List Str).Nodup := by decide +kernel
theorem ndLCrowds_1 : (["_law_k", "_law_letter", "_law_number"] : List Str).Nodup := by decide +kernel
theorem ndLCrowds_2 : (["_law_a", "_law_ground_here", "_law_one"] : List Str).Nodup := by decide +kernel
theorem ndLCrowds_3 : (["_law_b", "_law_a", "_law_ground_here"] : List Str).Nodup := by decide +kernel
theorem ndLCrowds_4 : (["_law_pair"] : List Str).Nodup := by decide +kernel
theorem ok_LCrowds {f : Addr} {fd : FuncData} (F : Fun K "_law_crowds" "_law_crowds" sLCrowds f fd)
    {fLTied : Addr} {fdLTied : FuncData} (GLTied : FnOk P w K mg base CX0 1 fLTied fdLTied ["_law_ground_here", "_law_one", "_law_other"] spTied) (bLTied : Binds K fdLTied ["_law_ground_here", "_law_one", "_law_other"] []) (kLTied : PySem.W.keepIn K (.ref fLTied) = true) (mLTied : mg "_law_tied" = some (.ref fLTied))
    (m_enumerate : mg "enumerate" = none) (m_len : mg "len" = none) (m_range : mg "range" = none) (m_sorted : mg "sorted" = none) (m_tuple : mg "tuple" = none)   : FnOk P w K mg base CX0 2 f fd ["_law_ground_here"] spCrowds := by
  refine F.okQ scLCrowds (fun vs H Q E h => ?_) (fun cdv A outer s H vs Q E hr h => ?_)
  · obtain ⟨g, L, T, rfl, _⟩ := h
    rfl
  obtain ⟨g, L, T, rfl, G, GA, q⟩ := h
  refine ⟨_, (qss_cons (qs_set (i := 1) scLCrowds.nd rfl (Or.inl rfl) (qe_lst qa_nil))
    (qss_cons (qs_for PassesOwn.never rfl (qi_range2 rfl m_range (qa_cons qe_int (qa_cons (qe_op op_shl qe_int (qe_callB call_len_str rfl m_len PySem.boot_len (qa_cons (qe_ix (r := rIxT K) ix_tup (qv 0) qe_int) qa_nil))) qa_nil))) (qg_name (i := 2) scLCrowds.nd rfl (Or.inr rfl))
      (qss_cons (qs_set (i := 3) scLCrowds.nd rfl (Or.inr rfl) (qe_bm K (r := rJoin K) PySem.F.plainAttrs_str PySem.F.slot_str_join PySem.F.type_str_join mt_join qe_str (qa_cons (qe_comp (N := ["_law_k", "_law_letter", "_law_number"]) (k := 2) (fr := [2]) (by kernel_rfl) rfl (qi_enumS rfl m_enumerate (qa_cons (qe_ix (r := rIxT K) ix_tup (qv 0) qe_int) qa_nil)) (fun _ _ _ _ _ => qg_tup K (n := 2) rfl (qgs_cons (qg_name (i := 0) ndLCrowds_1 rfl (Or.inl rfl)) (qgs_cons (qg_name (i := 1) ndLCrowds_1 rfl (Or.inl rfl)) qgs_nil))) (fun _ _ _ _ _ => qts_one (qt_cmp op_eq (qe_op op_and (qe_op op_shr (qv 2) (qv 0)) qe_int) qe_int (nomark _))) (fun _ _ _ _ _ => (qv 1))) qa_nil)))
    (qss_one (qs_if (qt_not (qt_truth K (qe_compC (N := ["_law_a", "_law_ground_here", "_law_one"]) (k := 1) (fr := [0, 3]) "_law_a" (by kernel_rfl) (fun _ _ => rfl) (fun _ => rfl) rfl (qi_str (qv 3)) (fun _ _ _ _ _ => qg_name (i := 0) ndLCrowds_2 rfl (Or.inr rfl) (hf := Or.inl (beq_self_eq_true _))) (fun _ _ _ _ _ => qts_one (qt_truth K (qe_comp (N := ["_law_b", "_law_a", "_law_ground_here"]) (k := 1) (fr := [0, 1]) (by kernel_rfl) rfl (qi_str (qv 2)) (fun _ _ _ _ _ => qg_name (i := 0) ndLCrowds_3 rfl (Or.inl rfl)) (fun _ _ _ _ _ => qts_one (qw_pt (qw_and (qt_cmp op_ne (qv 1) (qv 0) (nomark _)) (qw_and1 (qt_val (qe_call GLTied hr rfl mLTied kLTied bLTied .nil pass0 (qa_cons (qv 2) (qa_cons (qv 1) (qa_cons (qv 0) qa_nil))))))))) (fun _ _ _ _ _ => (qv 0))))) (fun _ _ _ _ _ => (qv 0))))) (qss_one (qs_expr (qe_bm K PySem.F.plainAttrs_list PySem.F.slot_list_append PySem.F.type_list_append mt_append (qv 1) (qa_cons (qe_tup (qa_cons (qe_callB call_len_str rfl m_len PySem.boot_len (qa_cons (qv 3) qa_nil)) (qa_cons (qv 3) qa_nil))) qa_nil)))) qss_nil))))
    (qss_one (qs_ret (qe_callTy (r := rTupOf K) c_tuple_of rfl m_tuple (by decide +kernel) (qa_cons (qe_comp (N := ["_law_pair"]) (k := 1) (fr := []) (by kernel_rfl) rfl (qi_list K (qe_callB (r := rSortedP K) c_sortedP rfl m_sorted boot_sorted (qa_cons (qv 1) qa_nil))) (fun _ _ _ _ _ => qg_name (i := 0) ndLCrowds_4 rfl (Or.inl rfl)) (fun _ _ _ _ _ => qts_nil) (fun _ _ _ _ _ => (qe_ix (r := rIxT K) ix_tup (qv 0) qe_int))) qa_nil)))))), ?_⟩
  have Td := td_ok T
  obtain ⟨t1, g1, _⟩ := id GA
  have hl5 := G.le.l5
  have hl1 := G.le.l1
  have up := G.le.up
  have nd := TR.nodup_up up
  have hp2 : 2 ^ L.length ≤ 32 := Nat.pow_le_pow_right (n := 2) (by decide) hl5
  have hp0 : 0 < 2 ^ L.length := Nat.pow_pos (by decide)
  rw [e_empty]
  refine ⟨by show 0 ≤ sizeLine; omega, fun fA hfA => ?_⟩
  have s0 : Same H (upd H fA (.lst [])) := same_new hfA _
  have em : (1 : Int) * 2 ^ (((S L).length : Nat) : Int).toNat = ((2 ^ L.length : Nat) : Int) := by
    rw [S_len, Int.toNat_natCast, Int.one_mul]
    exact (Int.natCast_pow 2 L.length).symm
  refine ⟨_, rfl, g, _, 0, tx L, rfl, rfl, SqT.of (s0 _ _ g1), rfl, S L, rfl, by rw [S_len]; exact small (by omega), _, _, rfl, rfl, ⟨by omega, by rw [S_len]; omega, by decide⟩, ?_⟩
  refine ⟨1, ((2 ^ L.length : Nat) : Int), by rw [← em], by omega, ?_⟩
  rw [show (((2 ^ L.length : Nat) : Int) - 1).toNat = 2 ^ L.length - 1 by omega]
  refine for_range (lo := 1) (n := 2 ^ L.length - 1) (fun i σ H2 => ∃ (q : List (Addr × Int × Str)) (x2 x3 : Option V), σ = [some (.ref g), some (.ref fA), x2, x3] ∧ Same H H2 ∧ H2 fA = some (.lst (q.map fun e => V.ref e.1)) ∧ (∀ e ∈ q, H2 e.1 = some (.tup [.int e.2.1, .str e.2.2])) ∧ q.map (·.2) = (TR.ws (tiedB T) L i).map fun C => ((C.length : Int), S C))
    ⟨[], none, none, rfl, s0, by rw [upd_same]; rfl, (fun _ z => nomatch z), rfl⟩ ?_ ?_
  · rintro i σ H2 hi ⟨q0, x2, x3, rfl, sm, hf, hq, hw⟩
    have ei : (1 : Int) + (i : Int) = ((i + 1 : Nat) : Int) := by omega
    rw [ei]
    have sm2 := sm
    refine ⟨rfl, _, rfl, g, _, 0, tx L, rfl, rfl, SqT.of (sm _ _ g1), rfl, S L, rfl, fun D hD => ?_⟩
    refine comp_enum (fr := [2]) hD (by rw [S_len]; exact small (by omega)) (fun k c => decide ((i + 1) / 2 ^ k % 2 = 1)) (fun k c => chV c) (fun k c H' Qb hc sm' kk => ?_) (fun k c H' Qv hc _ sm' kk => ?_) fun H3 s3 hd3 => ?_
    · refine ⟨_, rfl, _, rfl, _, _, rfl, rfl, (by show (0 : Int) ≤ (k : Int); omega), _, _, rfl, rfl, rfl, _, rfl, ?_⟩
      have eb : decide (V.int (Builtin.bitAnd (((i + 1 : Nat) : Int) / 2 ^ ((k : Nat) : Int).toNat) 1) = V.int 1) = decide ((i + 1) / 2 ^ k % 2 = 1) := by
        rw [PyProof.Rows.bitAnd_m1, Int.toNat_natCast]
        have e2 : ((i + 1 : Nat) : Int) / 2 ^ k % 2 = (((i + 1) / 2 ^ k % 2 : Nat) : Int) := by
          rw [Int.natCast_emod, Int.natCast_ediv, Int.natCast_pow]
          rfl
        rw [e2]
        refine decide_eq_decide.mpr ⟨fun z => by have := V.int.inj z; omega, fun z => by rw [z]; rfl⟩
      rw [eb]
      exact kk H' (Same.refl _)
    · exact ⟨_, rfl, kk H' (Same.refl _)⟩
    have em3 : ((((S L).cps.toList.zipIdx).filter fun e => decide ((i + 1) / 2 ^ e.2 % 2 = 1)).map fun e => chV e.1) = ((TR.mask L (i + 1)).map fun c => S [c]).map V.str := by
      have e1 := TR.mask_idx L (i + 1) 0
      rw [Nat.pow_zero, Nat.div_one] at e1
      rw [← e1, S_cps, List.map_map, List.map_map]
      rfl
    rw [em3] at hd3
    have hms := TR.mask_sub L (i + 1)
    have hml := hms.length_le
    refine ⟨S [], D, _, rfl, rfl, SqL.of hd3, by rw [sum_signs, S_nil, Nat.mul_zero]; omega, ?_⟩
    rw [join_signs]
    generalize hC : TR.mask L (i + 1) = C at hms hml
    have hCL : ∀ c ∈ C, c ∈ L := fun c hc => hms.subset hc
    have hzC : (S C).length ≤ sizeLine := by rw [S_len]; exact small (by omega)
    have sm3 := sm2.trans s3
    have hf3 := s3 _ _ hf
    have hw1 := TR.ws_succ (td := tiedB T) L i
    rw [hC] at hw1
    refine ⟨_, rfl, S C, rfl, fun D2 hD2 => ?_⟩
    refine comp_val (α := Nat) (as_ := C) (fr := [0, 3]) (by rw [signsV_length, S_len]) yields_str hD2 (by rw [signsV_length, S_len]; exact small (by omega)) (fun a => !((C.filter fun b => !decide (a = b) && tiedB T a b).map chV).isEmpty) chV (fun j x a H' Qb hx ha sm' kk => ?_) (fun j x a H' Qv hx ha _ sm' kk => ?_) fun H4 s4 hd4 => ?_
    · rw [signsV_S] at hx
      cases getI_map hx ha
      refine ⟨_, rfl, S C, rfl, fun D3 hD3 => ?_⟩
      refine comp_val (α := Nat) (as_ := C) (fr := [0, 1]) (by rw [signsV_length, S_len]) yields_str hD3 (by rw [signsV_length, S_len]; exact small (by omega)) (fun b => !decide (a = b) && tiedB T a b) chV (fun j2 x2 b H'' Qb2 hx2 hb sm2' kk2 => ?_) (fun j2 x2 b H'' Qv2 hx2 hb _ sm2' kk2 => ?_) fun H5 s5 hd5 => ?_
      · rw [signsV_S] at hx2
        cases getI_map hx2 hb
        refine ⟨_, rfl, _, rfl, rfl, _, rfl, ?_⟩
        show if (!decide (chV a = chV b)) = true then _ else _
        rw [ch_dec]
        have kk2 := kk2 H'' (Same.refl _)
        cases hab : decide (a = b) with
        | true =>
          rw [hab] at kk2
          exact iteF kk2
        | false =>
          rw [hab] at kk2
          exact iteT ⟨_, rfl, _, rfl, _, rfl, g, L, T, a, b, rfl, G, GA.same ((sm3.trans sm').trans sm2'), _, rfl, kk2⟩
      · rw [signsV_S] at hx2
        cases getI_map hx2 hb
        exact ⟨_, rfl, kk2 H'' (Same.refl _)⟩
      · exact ⟨_, .inl ⟨_, SqL.of hd5, rfl⟩, kk H5 s5⟩
    · rw [signsV_S] at hx
      cases getI_map hx ha
      exact ⟨_, rfl, kk H' (Same.refl _)⟩
    · refine ⟨_, .inl ⟨_, SqL.of hd4, rfl⟩, ?_⟩
      have sm4 := sm3.trans s4
      have hf4 := s4 _ _ hf3
      have hq4 : ∀ e ∈ q0, H4 e.1 = some (.tup [.int e.2.1, .str e.2.2]) := fun e he => s4 _ _ (s3 _ _ (hq e he))
      show if (!(!(List.map chV (C.filter fun a => !((C.filter fun b => !decide (a = b) && tiedB T a b).map chV).isEmpty)).isEmpty)) = true then _ else _
      rw [Bool.not_not, TR.crowd_test]
      have hql : q0.length ≤ i := by
        have h1 := congrArg List.length hw
        rw [List.length_map, List.length_map] at h1
        rw [h1]
        exact TR.ws_len L i
      cases hcr : TR.crowdB (tiedB T) C with
      | false =>
        rw [hcr, if_neg Bool.false_ne_true, List.append_nil] at hw1
        refine iteF ⟨q0, _, _, rfl, sm4, hf4, hq4, ?_⟩
        rw [hw1]
        exact hw
      | true =>
        rw [hcr, if_pos rfl] at hw1
        refine iteT ⟨_, rfl, .inl ⟨rfl, _, SqL.of hf4⟩, _, rfl, S C, rfl, hzC, _, rfl, by show 2 ≤ sizeLine; exact small (by decide), fun tA htA => ?_⟩
        have sT : Same H4 (upd H4 tA (.tup [.int ((S C).length : Nat), tx C])) := same_new htA _
        have hf5 := sT _ _ hf4
        have htf : tA ≠ fA := fun z => by subst z; rw [hf4] at htA; cases htA
        refine ⟨fA, _, _, rfl, rfl, hf5, by rw [List.length_map]; exact Nat.lt_of_lt_of_le (by omega : q0.length < 1000) (small (by decide)), q0 ++ [(tA, (C.length : Int), S C)], _, _, rfl, same_put hfA (sm4.trans sT) _, by rw [upd_same, List.map_append]; rfl, fun e he => ?_, by rw [List.map_append, hw, hw1, List.map_append]; rfl⟩
        rcases List.mem_append.mp he with z | z
        · have h1 := hq4 e z
          have h2 : e.1 ≠ fA := fun y => by rw [y, hf4] at h1; cases h1
          rw [upd_ne h2]
          exact sT _ _ h1
        · have z := List.mem_singleton.mp z
          subst z
          show upd (upd H4 tA _) fA _ tA = _
          rw [upd_ne htf, upd_same, S_len]
  · rintro σ H2 ⟨q0, x2, x3, rfl, sm, hf, hq, hw⟩
    have hnd : (q0.map (·.2.2)).Nodup := by
      have e : q0.map (·.2.2) = (TR.ws (tiedB T) L (2 ^ L.length - 1)).map S := by
        have := congrArg (List.map (·.2)) hw
        rw [List.map_map, List.map_map] at this
        exact this
      rw [e, List.nodup_iff_pairwise_ne, List.pairwise_map]
      exact (TR.ws_nodup nd (by omega)).imp fun z y => z (S_inj y)
    have hql : q0.length ≤ 31 := by
      have h1 := congrArg List.length hw
      rw [List.length_map, List.length_map] at h1
      rw [h1]
      exact Nat.le_trans (TR.ws_len L _) (by omega)
    refine ⟨_, rfl, fA, q0, rfl, SqL.of hf, hq, hnd, by omega, fun l q' hl hp hs => ⟨l, rfl, ⟨_, SqL.of upd_same⟩, fun D hD => ?_⟩⟩
    have sL : Same H2 (upd H2 l (.lst (q'.map fun e => V.ref e.1))) := same_new hl _
    have hpl := hp.length_eq
    refine comp_val (α := Addr × Int × Str) (as_ := q') (fr := []) (by rw [List.length_map]) (yields_list (SqL.of upd_same)) hD (by rw [List.length_map]; exact small (by omega)) (fun _ => true) (fun e => V.str e.2.2) (fun j x d H' Qb hx hd sm' k => k H' (Same.refl _)) (fun j x e H' Qv hx hd _ sm' k => ?_) fun H3 s3 hd3 => ?_
    · cases getI_map hx hd
      have h1 := sm' _ _ (sL _ _ (hq e (hp.mem_iff.mp (List.mem_of_getElem? hd))))
      exact ⟨_, rfl, e.1, _, 1, V.str e.2.2, rfl, rfl, SqT.of h1, rfl, k H' (Same.refl _)⟩
    · rw [filter_yes] at hd3
      refine ⟨D, _, rfl, .inl ⟨SqL.of hd3, fun p hp' => ?_⟩⟩
      have hmem : ∀ e ∈ q', ∃ C, TR.CrOf (tiedB T) L C ∧ e.2 = ((C.length : Int), S C) := fun e he => by
        have h1 : e.2 ∈ q0.map (·.2) := List.mem_map.mpr ⟨e, hp.mem_iff.mp he, rfl⟩
        rw [hw] at h1
        obtain ⟨C, hC, e2⟩ := List.mem_map.mp h1
        exact ⟨C, (TR.ws_mem up).mp hC, e2.symm⟩
      have et : (q'.map fun e => V.str e.2.2) = (q'.map fun e => e.2.2.cps.toList).map tx := by
        rw [List.map_map]
        refine List.map_congr_left fun e he => ?_
        obtain ⟨C, _, e2⟩ := hmem e he
        show V.str e.2.2 = V.str (S e.2.2.cps.toList)
        rw [e2]
      rw [et]
      refine q p _ _ (((sm.trans sL).trans s3).trans (same_new hp' _)) upd_same ⟨?_, fun C => ?_⟩
      · rw [List.pairwise_map]
        refine List.Pairwise.imp_of_mem (fun {e f} he hf' z => ?_) hs
        obtain ⟨C, _, e2⟩ := hmem e he
        obtain ⟨D', _, f2⟩ := hmem f hf'
        rw [e2, f2] at z ⊢
        show TR.cLt (S C).cps.toList (S D').cps.toList
        rw [S_cps, S_cps]
        unfold pLt at z
        by_cases hcd : (C.length : Int) = (D'.length : Int)
        · rw [if_pos hcd] at z
          have z := of_decide_eq_true z
          have z : (S C).cps.toList < (S D').cps.toList := z
          rw [S_cps, S_cps] at z
          exact .inr ⟨by omega, z⟩
        · rw [if_neg hcd] at z
          have z := of_decide_eq_true z
          have z : (C.length : Int) < (D'.length : Int) := z
          exact .inl (by omega)
      · rw [List.mem_map]
        constructor
        · rintro ⟨e, he, rfl⟩
          obtain ⟨C, hC, e2⟩ := hmem e he
          rw [e2]
          show TR.CrOf (tiedB T) L (S C).cps.toList
          rw [S_cps]
          exact hC
        · intro hC
          have h1 : ((C.length : Int), S C) ∈ q0.map (·.2) := by
            rw [hw]
            exact List.mem_map.mpr ⟨C, (TR.ws_mem up).mpr hC, rfl⟩
          obtain ⟨e, he, e2⟩ := List.mem_map.mp h1
          refine ⟨e, hp.mem_iff.mpr he, ?_⟩
          rw [e2]
end
end K12

namespace K12
open PySem L2 HW PyProof.Rows
section
variable {P : Program} {w : World} {K : PySem.W.Frag} {mg : Str → Option Value} {base : Heap}
/-! ### is_tied(ground, one, other) -/
abbrev sIsTied : Stmt := top 1
theorem scIsTied : FnScope ["ground", "one", "other", "ties"] ["ground", "one", "other"] (defScope sIsTied) := ⟨rfl, rfl, rfl, by decide +kernel, rfl, by decide +kernel, by decide +kernel⟩
theorem ok_IsTied {f : Addr} {fd : FuncData} (F : Fun K "is_tied" "is_tied" sIsTied f fd)
       : FnOk P w K mg base CX0 1 f fd ["ground", "one", "other"] spTied := by
  refine F.okQ scIsTied (fun vs H Q E h => ?_) (fun cdv A outer s H vs Q E hr h => ?_)
  · obtain ⟨g, L, T, a, b, rfl, _⟩ := h
    rfl
  obtain ⟨g, L, T, a, b, rfl, G, ⟨t, h1, h2, _⟩, q⟩ := h
  refine ⟨_, (qss_cons (qs_set (i := 3) scIsTied.nd rfl (Or.inl rfl) (qe_ix (r := rIxT K) ix_tup (qv 0) qe_int))
    (qss_one (qs_ret (qe_or (qe_cmp op_eq (qv 1) (qv 2) (nomark _)) (qe_or (qe_cmp (r := rIn K false) op_in_seq (qe_op op_add_str (qv 1) (qv 2)) (qv 3) rfl) (qe_one (qe_cmp (r := rIn K false) op_in_seq (qe_op op_add_str (qv 2) (qv 1)) (qv 3) rfl))))))), ?_⟩
  refine ⟨_, rfl, g, _, 1, .ref t, rfl, rfl, SqT.of h1, rfl, ?_⟩
  refine ⟨_, rfl, _, rfl, rfl, _, rfl, ?_⟩
  rw [← tied_two G a b] at q
  show if decide (chV a = chV b) = true then _ else _
  rw [ch_dec]
  have hz : (S [a]).length + (S [b]).length ≤ sizeLine := by rw [S_len, S_len]; exact small (by show 2 ≤ 100000; decide)
  have hz' : (S [b]).length + (S [a]).length ≤ sizeLine := by rw [S_len, S_len]; exact small (by show 2 ≤ 100000; decide)
  have ea : S [a] ++ S [b] = S [a, b] := S_app [a] [b]
  have eb : S [b] ++ S [a] = S [b, a] := S_app [b] [a]
  cases e1 : decide (a = b) with
  | true =>
    rw [e1] at q
    exact iteT q
  | false =>
    rw [e1, Bool.false_or] at q
    refine iteF ⟨_, rfl, _, rfl, _, _, rfl, rfl, hz, _, rfl, t, _, rfl, .inr (SqT.of h2), rfl, flat_tx T, _, rfl, ?_⟩
    show if (inV (V.str (S [a] ++ S [b])) (T.map tx)) = true then _ else _
    rw [ea, inV_tx]
    cases e2 : decide ([a, b] ∈ T) with
    | true =>
      rw [e2] at q
      exact iteT q
    | false =>
      rw [e2, Bool.false_or] at q
      refine iteF ⟨_, rfl, _, rfl, _, _, rfl, rfl, hz', _, rfl, t, _, rfl, .inr (SqT.of h2), rfl, flat_tx T, ?_⟩
      show Q (.bl (inV (V.str (S [b] ++ S [a])) (T.map tx))) H
      rw [eb, inV_tx]
      exact q
/-! ### any_tied(ground, letters, others) -/
abbrev sAnyTied : Stmt := top 2
theorem scAnyTied : FnScope ["ground", "letters", "others", "one", "other"] ["ground", "letters", "others"] (defScope sAnyTied) := ⟨rfl, rfl, rfl, by decide +kernel, rfl, by decide +kernel, by decide +kernel⟩
theorem ok_AnyTied {f : Addr} {fd : FuncData} (F : Fun K "any_tied" "any_tied" sAnyTied f fd)
    {fIsTied : Addr} {fdIsTied : FuncData} (GIsTied : FnOk P w K mg base CX0 1 fIsTied fdIsTied ["ground", "one", "other"] spTied) (bIsTied : Binds K fdIsTied ["ground", "one", "other"] []) (kIsTied : PySem.W.keepIn K (.ref fIsTied) = true) (mIsTied : mg "is_tied" = some (.ref fIsTied))
       : FnOk P w K mg base CX0 2 f fd ["ground", "letters", "others"] spAny := by
  refine F.okQ scAnyTied (fun vs H Q E h => ?_) (fun cdv A outer s H vs Q E hr h => ?_)
  · obtain ⟨g, L, T, u, v, rfl, _⟩ := h
    rfl
  obtain ⟨g, L, T, u, v, rfl, G, GA, q⟩ := h
  refine ⟨_, (qss_cons (qs_for PassesOwn.never rfl (qi_str (qv 1)) (qg_name (i := 3) scAnyTied.nd rfl (Or.inl rfl))
      (qss_one (qs_for PassesOwn.never rfl (qi_str (qv 2)) (qg_name (i := 4) scAnyTied.nd rfl (Or.inl rfl))
      (qss_one (qs_if (qt_val (qe_call GIsTied hr rfl mIsTied kIsTied bIsTied .nil pass0 (qa_cons (qv 0) (qa_cons (qv 3) (qa_cons (qv 4) qa_nil))))) (qss_one (qs_ret qe_bl)) qss_nil)))))
    (qss_one (qs_ret qe_bl))), ?_⟩
  refine ⟨_, rfl, _, rfl, for_str (x := S u) (fun i σ H2 => ∃ (x1 x2 : Option V), σ = [some (.ref g), some (tx u), some (tx v), x1, x2] ∧ Same H H2 ∧ anyT T (u.take i) v = false)
    ⟨none, none, rfl, Same.refl _, rfl⟩ ?_ ?_⟩
  · rintro i a σ H2 ha ⟨x1, x2, rfl, sm, hf⟩
    rw [S_cps'] at ha
    refine ⟨_, rfl, _, rfl, for_str (x := S v) (fun j σ H3 => ∃ (x2 : Option V), σ = [some (.ref g), some (tx u), some (tx v), some (chV a), x2] ∧ Same H H3 ∧ ((v.take j).any fun b => tiedB T a b) = false)
      ⟨x2, rfl, sm, rfl⟩ ?_ ?_⟩
    · rintro j b σ H3 hb ⟨x2, rfl, sm3, hg⟩
      rw [S_cps'] at hb
      refine ⟨_, rfl, _, rfl, _, rfl, g, L, T, a, b, rfl, G, GA.same sm3, ?_⟩
      cases ht : tiedB T a b with
      | true =>
        refine ⟨_, rfl, iteT ?_⟩
        have e : anyT T u v = true := by
          unfold anyT
          rw [List.any_eq_true]
          refine ⟨a, List.mem_of_getElem? ha, ?_⟩
          rw [List.any_eq_true]
          exact ⟨b, List.mem_of_getElem? hb, ht⟩
        rw [← e]
        exact q H3 sm3
      | false =>
        refine ⟨_, rfl, iteF ⟨_, rfl, sm3, ?_⟩⟩
        rw [List.take_add_one, hb]
        show ((v.take j ++ [b]).any fun b => tiedB T a b) = false
        rw [List.any_append, hg, List.any_cons, List.any_nil, ht]
        rfl
    · rintro σ H3 ⟨x2, rfl, sm3, hg⟩
      rw [S_len, List.take_length] at hg
      refine ⟨_, _, rfl, sm3, ?_⟩
      rw [List.take_add_one, ha]
      show anyT T (u.take i ++ [a]) v = false
      rw [anyT_snoc, hf, hg]
      rfl
  · rintro σ H2 ⟨x1, x2, rfl, sm, hf⟩
    rw [S_len, List.take_length] at hf
    rw [hf] at q
    exact q H2 sm
/-! ### is_first(ground, word, letter) -/
abbrev sIsFirst : Stmt := top 5
theorem scIsFirst : FnScope ["ground", "word", "letter"] ["ground", "word", "letter"] (defScope sIsFirst) := ⟨rfl, rfl, rfl, by decide +kernel, rfl, by decide +kernel, by decide +kernel⟩
theorem ok_IsFirst {f : Addr} {fd : FuncData} (F : Fun K "is_first" "is_first" sIsFirst f fd)
    {fAnyTied : Addr} {fdAnyTied : FuncData} (GAnyTied : FnOk P w K mg base CX0 2 fAnyTied fdAnyTied ["ground", "letters", "others"] spAny) (bAnyTied : Binds K fdAnyTied ["ground", "letters", "others"] []) (kAnyTied : PySem.W.keepIn K (.ref fAnyTied) = true) (mAnyTied : mg "any_tied" = some (.ref fAnyTied))
       : FnOk P w K mg base CX0 3 f fd ["ground", "word", "letter"] spIsFirst := by
  refine F.okQ scIsFirst (fun vs H Q E h => ?_) (fun cdv A outer s H vs Q E hr h => ?_)
  · obtain ⟨g, L, T, x, y, c, rfl, _⟩ := h
    rfl
  obtain ⟨g, L, T, x, y, c, rfl, G, GA, hn, hz, q⟩ := h
  refine ⟨_, (qss_one (qs_ret (qe_not (qe_call GAnyTied hr rfl mAnyTied kAnyTied bAnyTied .nil pass0 (qa_cons (qv 0) (qa_cons (qe_slice sl_str (qv 1) qo_none (qo_some (qe_bm K PySem.F.plainAttrs_str PySem.F.slot_str_find PySem.F.type_str_find mt_find (qv 1) (qa_cons (qv 2) qa_nil)))) (qa_cons (qv 2) qa_nil))))))), ?_⟩
  have hzS : (S (x ++ c :: y)).length ≤ sizeLine := by rw [S_len]; exact small (by omega)
  refine ⟨_, rfl, _, rfl, _, rfl, rfl, _, rfl, x, y, c, rfl, rfl, hn, _, rfl, S _, rfl, hzS, ?_⟩
  rw [slice_to, List.take_left]
  exact ⟨_, rfl, g, L, T, x, [c], rfl, G, GA, fun H1 s1 => ⟨_, rfl, q H1 s1⟩⟩
/-! ### without(word, letter) -/
abbrev sWithout : Stmt := top 6
theorem scWithout : FnScope ["word", "letter"] ["word", "letter"] (defScope sWithout) := ⟨rfl, rfl, rfl, by decide +kernel, rfl, by decide +kernel, by decide +kernel⟩
theorem ok_Without {f : Addr} {fd : FuncData} (F : Fun K "without" "without" sWithout f fd)
       : FnOk P w K mg base CX0 1 f fd ["word", "letter"] spWithout := by
  refine F.okQ scWithout (fun vs H Q E h => ?_) (fun cdv A outer s H vs Q E hr h => ?_)
  · obtain ⟨x, y, c, n, rfl, _⟩ := h
    rfl
  obtain ⟨x, y, c, n, rfl, hk, h1, hn, hz, q⟩ := h
  refine ⟨_, (qss_one (qs_ret (qe_bm K PySem.F.plainAttrs_str PySem.F.slot_str_replace PySem.F.type_str_replace mt_cut (qv 0) (qa_cons (qv 1) (qa_cons qe_new (qa_cons qe_int qa_nil)))))), ?_⟩
  refine ⟨_, rfl, rfl, _, rfl, fun m hm => ?_⟩
  exact ⟨x, y, c, 1, n, m, m + 1, rfl, rfl, Nat.le_refl _, Nat.le_trans hk hm, Nat.le_trans h1 hm, hn, by omega, q _ (same_bump (Nat.le_succ_of_le hm))⟩
/-! ### firsts(ground, word) -/
abbrev sFirsts : Stmt := top 4
theorem scFirsts : FnScope ["ground", "word"] ["ground", "word"] (defScope sFirsts) := ⟨rfl, rfl, rfl, by decide +kernel, rfl, by decide +kernel, by decide +kernel⟩
theorem ndFirsts_0 : (["letter", "ground", "word"] : List Str).Nodup := by decide +kernel
theorem ok_Firsts {f : Addr} {fd : FuncData} (F : Fun K "firsts" "firsts" sFirsts f fd)
    {fIsFirst : Addr} {fdIsFirst : FuncData} (GIsFirst : FnOk P w K mg base CX0 3 fIsFirst fdIsFirst ["ground", "word", "letter"] spIsFirst) (bIsFirst : Binds K fdIsFirst ["ground", "word", "letter"] []) (kIsFirst : PySem.W.keepIn K (.ref fIsFirst) = true) (mIsFirst : mg "is_first" = some (.ref fIsFirst))
    (m_set : mg "set" = none) (m_sorted : mg "sorted" = none)   : FnOk P w K mg base CX0 4 f fd ["ground", "word"] spFirsts := by
  refine F.okQ scFirsts (fun vs H Q E h => ?_) (fun cdv A outer s H vs Q E hr h => ?_)
  · obtain ⟨g, L, T, wd, rfl, _⟩ := h
    rfl
  obtain ⟨g, L, T, wd, rfl, G, GA, hz, q⟩ := h
  refine ⟨_, (qss_one (qs_ret (qe_comp (N := ["letter", "ground", "word"]) (k := 1) (fr := [0, 1]) (by kernel_rfl) rfl (qi_list K (qe_callB (r := rSortedU P w) (c_sortedU rfl) rfl m_sorted boot_sorted (qa_cons (qe_callTy (r := rSetT P w) (c_setT rfl) rfl m_set (by decide +kernel) (qa_cons (qv 1) qa_nil)) qa_nil))) (fun _ _ _ _ _ => qg_name (i := 0) ndFirsts_0 rfl (Or.inl rfl)) (fun _ _ _ _ _ => qts_one (qt_val (qe_call GIsFirst hr rfl mIsFirst kIsFirst bIsFirst .nil pass0 (qa_cons (qv 1) (qa_cons (qv 2) (qa_cons (qe_wk (qv 0)) qa_nil)))))) (fun _ _ _ _ _ => (qv 0))))), ?_⟩
  have Td := td_ok T
  refine ⟨_, rfl, S wd, rfl, by rw [S_len]; omega, GA.ck, fun p ss n hp hn nd hl hm => ?_⟩
  obtain ⟨fd, rfl, hfd, hmem⟩ := set_codes nd hm
  rw [List.length_map, S_len] at hl
  refine ⟨p, _, n, rfl, upd_same, by rw [List.length_map]; omega, fun l0 ss' hl0 hpm hst => ?_⟩
  obtain ⟨F0, rfl, pF, uF⟩ := sorted_codes hpm hst hfd
  have hF0 : F0.length ≤ 60 := by rw [pF.length_eq]; omega
  have s1 : Same H (upd ((upd H p (HSet P w true n p (fd.map fun c => S [c]))).bump n) l0 (.lst ((F0.map fun c => S [c]).map fun x => V.old x 1 n))) := ((same_new hp _).trans (same_bump hn)).trans (same_new hl0 _)
  refine ⟨l0, rfl, ⟨_, SqL.of upd_same⟩, fun D hD => ?_⟩
  have em : ((F0.map fun c => S [c]).map fun x => V.old x 1 n) = F0.map (oV n) := by rw [List.map_map]; rfl
  refine comp_val (α := Nat) (as_ := F0) (fr := [0, 1]) (by rw [em, List.length_map]) (yields_list (SqL.of upd_same)) hD (by rw [em, List.length_map]; exact small (by omega)) (fun c => decide (c ∈ TR.firsts (tiedB T) wd)) (oV n) (fun j v c H' Qb hx hc sm' k => ?_) (fun j v c H' Qv hx hc _ sm' k => ?_) fun H4 s4 hd4 => ?_
  · rw [em] at hx
    cases getI_map hx hc
    have hcw : c ∈ wd := (hmem c).mp (pF.mem_iff.mp (List.mem_of_getElem? hc))
    obtain ⟨x, y, e, hxn⟩ := TR.first_place hcw
    subst e
    refine ⟨_, rfl, _, rfl, _, rfl, g, L, T, x, y, c, rfl, G, GA.same (s1.trans sm'), hxn, hz, fun H5 s5 => ?_⟩
    have e : (!anyT T x [c]) = decide (c ∈ TR.firsts (tiedB T) (x ++ c :: y)) := by
      rw [Bool.eq_iff_iff, fr_first hxn, decide_eq_true_iff, TR.mem_firsts Td]
    rw [e]
    exact ⟨_, rfl, k H5 s5⟩
  · rw [em] at hx
    cases getI_map hx hc
    exact ⟨_, rfl, k H' (Same.refl _)⟩
  · refine q D _ n H4 (s1.trans s4) (s1.free hD) hd4 (Nat.le_trans (Nat.le_refl _) s4.ck) (uF.filter _) fun a => ?_
    rw [List.mem_filter, decide_eq_true_iff, pF.mem_iff, hmem, TR.mem_firsts Td]
    exact ⟨fun z => z.2, fun z => ⟨z.mem, z⟩⟩
/-! ### plain(ground, word) -/
abbrev sPlain : Stmt := top 13
theorem scPlain : FnScope ["ground", "word", "done", "rest", "letter"] ["ground", "word"] (defScope sPlain) := ⟨rfl, rfl, rfl, by decide +kernel, rfl, by decide +kernel, by decide +kernel⟩
theorem ok_Plain {f : Addr} {fd : FuncData} (F : Fun K "plain" "plain" sPlain f fd)
    {fFirsts : Addr} {fdFirsts : FuncData} (GFirsts : FnOk P w K mg base CX0 4 fFirsts fdFirsts ["ground", "word"] spFirsts) (bFirsts : Binds K fdFirsts ["ground", "word"] []) (kFirsts : PySem.W.keepIn K (.ref fFirsts) = true) (mFirsts : mg "firsts" = some (.ref fFirsts))
    {fWithout : Addr} {fdWithout : FuncData} (GWithout : FnOk P w K mg base CX0 1 fWithout fdWithout ["word", "letter"] spWithout) (bWithout : Binds K fdWithout ["word", "letter"] []) (kWithout : PySem.W.keepIn K (.ref fWithout) = true) (mWithout : mg "without" = some (.ref fWithout))
       : FnOk P w K mg base CX0 5 f fd ["ground", "word"] spPlain := by
  refine F.okQ scPlain (fun vs H Q E h => ?_) (fun cdv A outer s H vs Q E hr h => ?_)
  · obtain ⟨g, L, T, w, rfl, _⟩ := h
    rfl
  obtain ⟨g, L, T, w, rfl, G, GA, hw, hz, q⟩ := h
  have hr1 : Room 1 _ := hr.mono (by decide)
  refine ⟨_, (qss_cons (qs_set (i := 2) scPlain.nd rfl (Or.inl rfl) qe_str)
    (qss_cons (qs_set (i := 3) scPlain.nd rfl (Or.inl rfl) (qv 1))
    (qss_cons (qs_while PassesOwn.never (qt_cmp op_ne (qv 3) qe_str (nomark _))
      (qss_cons (qs_set (i := 4) scPlain.nd rfl (Or.inl rfl) (qe_ix (r := rIxL K) ix_list (qe_call GFirsts hr rfl mFirsts kFirsts bFirsts .nil pass0 (qa_cons (qv 0) (qa_cons (qv 3) qa_nil))) qe_int))
    (qss_cons (qs_aug (i := 2) scPlain.nd rfl (Or.inl rfl) (qe_wk (qv 4)) iop_add_str)
    (qss_one (qs_set (i := 3) scPlain.nd rfl (Or.inl rfl) (qe_call GWithout hr1 rfl mWithout kWithout bWithout .nil pass0 (qa_cons (qv 3) (qa_cons (qv 4) qa_nil))))))))
    (qss_one (qs_ret (qv 2)))))), ?_⟩
  have Td := td_ok T
  rw [e_empty]
  refine ⟨_, rfl, while_by (fun σ H2 => ∃ (v f : List Nat) (x4 : Option V), σ = [some (.ref g), some (tx w), some (tx f), some (tx v), x4] ∧ Same H H2 ∧ f ++ TR.pl (tiedB T) v = TR.pl (tiedB T) w ∧ f.length + v.length ≤ 60) (lenAt 3) ⟨w, [], none, rfl, Same.refl _, rfl, by simpa using hz⟩ ?_ ?_⟩
  · rintro σ H2 ⟨v, f, x4, rfl, sm, hpl, hfl⟩
    refine ⟨_, rfl, rfl, _, rfl, ?_⟩
    rw [tx_dec]
    by_cases hve : v = []
    · rw [decide_eq_true hve]
      refine iteF ⟨_, rfl, ?_⟩
      rw [hve, TR.pl_nil, List.append_nil] at hpl
      rw [hpl]
      exact q H2 sm
    · rw [decide_eq_false hve]
      refine iteT ⟨_, rfl, _, rfl, g, L, T, v, rfl, G, GA.same sm, by omega, fun l F n H3 s3 hl0 hl hn up hF => ?_⟩
      obtain ⟨F', eF⟩ := up_head Td up hF hve
      have fm := (TR.mem_firsts Td).mp (TR.lst_mem (TR.firsts_ne Td hve))
      have hst := pl_step Td hve
      generalize TR.lst (TR.firsts (tiedB T) v) = m at fm hst eF
      subst eF
      refine ⟨l, _, 0, oV n m, rfl, rfl, SqL.of hl, atI_zero _ _, ?_⟩
      have sm3 := sm.trans s3
      refine ⟨_, rfl, _, rfl, _, _, rfl, rfl, by rw [S_len, S_len]; exact small (by show _ + 1 ≤ 100000; omega), ?_⟩
      rw [S_app]
      obtain ⟨x, y, e, hx⟩ := id fm
      have hmx : m ∉ x := fun z => by have := hx m z; rw [Td.r] at this; cases this
      have hlen : v.length = x.length + (y.length + 1) := by rw [e, List.length_append]; rfl
      subst e
      rw [TR.fr_erase Td hx] at hst
      refine ⟨_, rfl, _, rfl, x, y, m, n, rfl, hn, Nat.le_trans GA.ck sm3.ck, hmx, by omega, fun H4 s4 => ⟨⟨x ++ y, f ++ [m], _, rfl, sm3.trans s4, ?_, ?_⟩, ?_⟩⟩
      · rw [List.append_assoc]
        show f ++ (m :: TR.pl (tiedB T) (x ++ y)) = _
        rw [← hst]
        exact hpl
      · rw [List.length_append, List.length_append]
        show f.length + 1 + (x.length + y.length) ≤ 60
        omega
      · show (S (x ++ y)).length < (S (x ++ m :: y)).length
        rw [S_len, S_len, List.length_append, List.length_append, List.length_cons]
        omega
  · intro σ H Q Q' hQ hc
    obtain ⟨v, hv, h1, k, h2, h3⟩ := hc
    exact ⟨v, hv, h1, k, h2, hQ _ _ h3⟩
/-! ### crowds_one_longer(ground, shorter) -/
abbrev sLonger : Stmt := top 9
theorem scLonger : FnScope ["ground", "shorter", "longer", "crowd", "letter"] ["ground", "shorter"] (defScope sLonger) := ⟨rfl, rfl, rfl, by decide +kernel, rfl, by decide +kernel, by decide +kernel⟩
theorem ok_Longer {f : Addr} {fd : FuncData} (F : Fun K "crowds_one_longer" "crowds_one_longer" sLonger f fd)
    {fAnyTied : Addr} {fdAnyTied : FuncData} (GAnyTied : FnOk P w K mg base CX0 2 fAnyTied fdAnyTied ["ground", "letters", "others"] spAny) (bAnyTied : Binds K fdAnyTied ["ground", "letters", "others"] []) (kAnyTied : PySem.W.keepIn K (.ref fAnyTied) = true) (mAnyTied : mg "any_tied" = some (.ref fAnyTied))
       : FnOk P w K mg base CX0 3 f fd ["ground", "shorter"] spLonger := by
  refine F.okQ scLonger (fun vs H Q E h => ?_) (fun cdv A outer s H vs Q E hr h => ?_)
  · obtain ⟨g, a, L, T, l, k, rfl, _⟩ := h
    rfl
  obtain ⟨g, a, L, T, l, k, rfl, G, GA, ha, hk, hlv, q⟩ := h
  refine ⟨_, (qss_cons (qs_set (i := 2) scLonger.nd rfl (Or.inl rfl) (qe_lst qa_nil))
    (qss_cons (qs_for PassesOwn.never rfl (qi_list K (qv 1)) (qg_name (i := 3) scLonger.nd rfl (Or.inl rfl))
      (qss_one (qs_for PassesOwn.never rfl (qi_str (qe_ix (r := rIxT K) ix_tup (qv 0) qe_int)) (qg_name (i := 4) scLonger.nd rfl (Or.inl rfl))
      (qss_one (qs_if (qw_pt (qw_and (qt_cmp op_gt_str (qv 4) (qe_ix ix_str (qv 3) (qe_un un_neg qe_int)) (nomark _)) (qw_and1 (qt_not (qt_val (qe_call GAnyTied hr rfl mAnyTied kAnyTied bAnyTied .nil pass0 (qa_cons (qv 0) (qa_cons (qv 3) (qa_cons (qv 4) qa_nil))))))))) (qss_one (qs_expr (qe_bm K PySem.F.plainAttrs_list PySem.F.slot_list_append PySem.F.type_list_append mt_append (qv 2) (qa_cons (qe_op op_add_str (qv 3) (qv 4)) qa_nil)))) qss_nil)))))
    (qss_one (qs_ret (qv 2))))), ?_⟩
  have Td := td_ok T
  obtain ⟨t1, g1, _⟩ := id GA
  have hl5 := G.le.l5
  have hls := TR.lev_small G.le.up hlv hl5
  refine ⟨by show 0 ≤ sizeLine; omega, fun b hb => ?_⟩
  have s0 : Same H (upd H b (.lst [])) := same_new hb _
  refine ⟨_, rfl, a, rfl, ⟨_, SqL.of (s0 _ _ ha)⟩, ?_⟩
  refine for_list (K := K) (a := a) (xs := l.map tx) (fun i σ H2 => ∃ x3 x4 : Option V, σ = [some (.ref g), some (.ref a), some (.ref b), x3, x4] ∧ Same H H2 ∧ H2 b = some (.lst (((l.take i).flatMap (TR.nexts (tiedB T) L)).map tx)))
    ⟨none, none, rfl, s0, by rw [upd_same]; rfl⟩ (fun i σ H2 _ ⟨_, _, _, s2, _⟩ => SqL.of (s2 _ _ ha)) ?_ ?_
  · rintro i x σ H2 hx ⟨x3, x4, rfl, sm, hb2⟩
    obtain ⟨C, hC, rfl⟩ := map_tx_get hx
    obtain ⟨hCl, hne, hu, hm, hc⟩ := (hlv.2 C).mp (List.mem_of_getElem? hC)
    have hC5 : C.length ≤ L.length := (TR.CrOf.len ⟨hne, hu, hm, hc⟩).2
    have hlen : ((l.take i).flatMap (TR.nexts (tiedB T) L)).length ≤ 160 := by
      have h1 := nexts_len (tiedB T) L (l.take i)
      have h2 : (l.take i).length ≤ 32 := by rw [List.length_take]; omega
      have h3 : (l.take i).length * L.length ≤ 32 * 5 := Nat.mul_le_mul h2 hl5
      omega
    refine ⟨_, rfl, g, _, 0, tx L, rfl, rfl, SqT.of (sm _ _ g1), rfl, _, rfl, for_str (x := S L) (fun j σ H3 => ∃ x4 : Option V, σ = [some (.ref g), some (.ref a), some (.ref b), some (tx C), x4] ∧ Same H H3 ∧ H3 b = some (.lst (((l.take i).flatMap (TR.nexts (tiedB T) L) ++ TR.nexts (tiedB T) (L.take j) C).map tx)))
      ⟨x4, rfl, sm, by rw [hb2]; simp [TR.nexts]⟩ ?_ ?_⟩
    · rintro j c σ H3 hc ⟨y4, rfl, sm3, hb3⟩
      rw [S_cps'] at hc
      have et : L.take (j + 1) = L.take j ++ [c] := by rw [List.take_add_one, hc]; rfl
      have es := nexts_snoc (tiedB T) (L.take j) C c
      rw [← et] at es
      refine ⟨_, rfl, _, rfl, _, rfl, S C, _, C.getLastD 0, rfl, rfl, by rw [S_len]; exact small (by omega), by rw [S_cps]; exact atI_last hne, _, _, rfl, rfl, _, rfl, ?_⟩
      show if decide ((S [C.getLastD 0]).cps.toList < (S [c]).cps.toList) = true then _ else _
      rw [ch_lt]
      by_cases h1 : C.getLastD 0 < c
      · rw [decide_eq_true h1] at es
        rw [decide_eq_true h1]
        refine iteT ⟨_, rfl, _, rfl, _, rfl, g, L, T, C, [c], rfl, G, GA.same sm3, fun H4 s4 => ⟨_, rfl, ?_⟩⟩
        have sm4 := sm3.trans s4
        have hb4 := s4 _ _ hb3
        show if (!anyT T C [c]) = true then _ else _
        rw [anyT_all]
        cases h2 : (C.all fun a => !tiedB T a c) with
        | true =>
          rw [h2, Bool.and_true, if_pos rfl] at es
          refine iteT ⟨_, rfl, .inl ⟨rfl, _, SqL.of hb4⟩, _, rfl, _, rfl, _, _, rfl, rfl, by rw [S_len]; exact small (by show _ + 1 ≤ 100000; omega), ?_⟩
          have ea : S C ++ ⟨#[c]⟩ = S (C ++ [c]) := S_app C [c]
          rw [ea]
          refine ⟨b, _, _, rfl, rfl, hb4, ?_, _, rfl, same_put hb sm4 _, ?_⟩
          · rw [List.length_map, List.length_append]
            have : (TR.nexts (tiedB T) (L.take j) C).length ≤ L.length := by
              unfold TR.nexts
              rw [List.length_map]
              exact Nat.le_trans (List.length_filter_le _ _) (by rw [List.length_take]; omega)
            exact Nat.lt_of_lt_of_le (by omega : _ < 1000) (small (by decide))
          · rw [upd_same, es, ← List.append_assoc, List.map_append (l₂ := [C ++ [c]])]
            rfl
        | false =>
          rw [h2, Bool.and_false, if_neg Bool.false_ne_true, List.append_nil] at es
          refine iteF ⟨_, rfl, sm4, ?_⟩
          rw [es]
          exact hb4
      · rw [decide_eq_false h1, Bool.false_and, if_neg Bool.false_ne_true, List.append_nil] at es
        rw [decide_eq_false h1]
        refine iteF ?_
        show if false = true then _ else _
        refine iteF ⟨_, rfl, sm3, ?_⟩
        rw [es]
        exact hb3
    · rintro σ H3 ⟨y4, rfl, sm3, hb3⟩
      rw [S_len, List.take_length] at hb3
      refine ⟨_, _, rfl, sm3, ?_⟩
      rw [hb3, List.take_add_one, hC, List.flatMap_append]
      show some (HO.lst _) = some (HO.lst ((_ ++ (TR.nexts (tiedB T) L C ++ [])).map tx))
      rw [List.append_nil]
  · rintro σ H2 ⟨x3, x4, rfl, sm, hb2⟩
    rw [List.length_map, List.take_length] at hb2
    exact ⟨_, rfl, q b H2 sm hb hb2⟩
/-! ### sign_of(size) -/
abbrev sSign : Stmt := top 11
theorem scSign : FnScope ["size"] ["size"] (defScope sSign) := ⟨rfl, rfl, rfl, by decide +kernel, rfl, by decide +kernel, by decide +kernel⟩
theorem ok_Sign {f : Addr} {fd : FuncData} (F : Fun K "sign_of" "sign_of" sSign f fd)
       : FnOk P w K mg base CX0 1 f fd ["size"] spSign := by
  refine F.okQ scSign (fun vs H Q E h => ?_) (fun cdv A outer s H vs Q E hr h => ?_)
  · obtain ⟨n, rfl, _⟩ := h
    rfl
  obtain ⟨n, rfl, q⟩ := h
  refine ⟨_, (qss_one (qs_ret (qe_ifExp (qt_cmp op_eq (qe_op op_mod (qv 0) qe_int) qe_int (nomark _)) qe_int (qe_un un_neg qe_int)))), ?_⟩
  refine ⟨_, rfl, _, _, rfl, rfl, (by show (0 : Int) < 2; decide), rfl, _, rfl, ?_⟩
  have q := q H (Same.refl _)
  unfold TR.sg at q
  show if decide (V.int ((n : Int) % 2) = V.int 1) = true then _ else _
  by_cases h : n % 2 = 1
  · rw [decide_eq_true (by rw [show (n : Int) % 2 = 1 by omega])]
    rw [h] at q
    exact iteT q
  · have h0 : n % 2 = 0 := by omega
    rw [decide_eq_false (fun z => by have := V.int.inj z; omega)]
    rw [h0] at q
    exact iteF ⟨_, rfl, q⟩
/-! ### crowds(ground) -/
abbrev sCrowds : Stmt := top 8
theorem scCrowds : FnScope ["ground", "found", "longest"] ["ground"] (defScope sCrowds) := ⟨rfl, rfl, rfl, by decide +kernel, rfl, by decide +kernel, by decide +kernel⟩
theorem ok_Crowds {f : Addr} {fd : FuncData} (F : Fun K "crowds" "crowds" sCrowds f fd)
    {fLonger : Addr} {fdLonger : FuncData} (GLonger : FnOk P w K mg base CX0 3 fLonger fdLonger ["ground", "shorter"] spLonger) (bLonger : Binds K fdLonger ["ground", "shorter"] []) (kLonger : PySem.W.keepIn K (.ref fLonger) = true) (mLonger : mg "crowds_one_longer" = some (.ref fLonger))
    (m_list : mg "list" = none) (m_tuple : mg "tuple" = none)   : FnOk P w K mg base CX0 4 f fd ["ground"] spCrowds := by
  refine F.okQ scCrowds (fun vs H Q E h => ?_) (fun cdv A outer s H vs Q E hr h => ?_)
  · obtain ⟨g, L, T, rfl, _⟩ := h
    rfl
  obtain ⟨g, L, T, rfl, G, GA, q⟩ := h
  refine ⟨_, (qss_cons (qs_set (i := 1) scCrowds.nd rfl (Or.inl rfl) (qe_lst qa_nil))
    (qss_cons (qs_set (i := 2) scCrowds.nd rfl (Or.inl rfl) (qe_callTy (call_listS rfl) rfl m_list (by decide +kernel) (qa_cons (qe_ix (r := rIxT K) ix_tup (qv 0) qe_int) qa_nil)))
    (qss_cons (qs_while PassesOwn.never (qt_cmp (r := rNeD K) (o_neD hr.units) (qv 2) (qe_lst qa_nil) (nomark _))
      (qss_cons (qs_expr (qe_bm K PySem.F.plainAttrs_list PySem.F.slot_list_extend PySem.F.type_list_extend mt_extend (qv 1) (qa_cons (qv 2) qa_nil)))
    (qss_one (qs_set (i := 2) scCrowds.nd rfl (Or.inl rfl) (qe_call GLonger hr rfl mLonger kLonger bLonger .nil pass0 (qa_cons (qv 0) (qa_cons (qv 2) qa_nil)))))))
    (qss_one (qs_ret (qe_callTy (r := rTupOf K) c_tuple_of rfl m_tuple (by decide +kernel) (qa_cons (qv 1) qa_nil))))))), ?_⟩
  have Td := td_ok T
  obtain ⟨t1, g1, _⟩ := id GA
  have hl5 := G.le.l5
  have up := G.le.up
  refine ⟨by show 0 ≤ sizeLine; omega, fun fA hfA => ?_⟩
  have s0 : Same H (upd H fA (.lst [])) := same_new hfA _
  refine ⟨_, rfl, g, _, 0, tx L, rfl, rfl, SqT.of (s0 _ _ g1), rfl, S L, rfl, by rw [S_len]; exact small (by omega), fun l0 hl0 => ?_⟩
  rw [signs_ones]
  have nfl : l0 ≠ fA := fun z => by subst z; rw [upd_same] at hl0; cases hl0
  refine while_by (fun σ H2 => ∃ (l f : List (List Nat)) (a : Addr) (k : Nat), σ = [some (.ref g), some (.ref fA), some (.ref a)] ∧ Same H H2 ∧ H2 fA = some (.lst (f.map tx)) ∧ H2 a = some (.lst (l.map tx)) ∧ a ≠ fA ∧ 1 ≤ k ∧ TR.IsLev (tiedB T) L k l ∧ TR.IsTo (tiedB T) L k f) muC
    ⟨L.map fun c => [c], [], l0, 1, rfl, s0.trans (same_new hl0 _), by rw [upd_ne nfl.symm, upd_same]; rfl, upd_same, nfl, Nat.le_refl _, TR.lev_one up, TR.to_one⟩ ?_ ?_
  · rintro σ H2 ⟨l, f, a, k, rfl, sm, hf, ha, naf, hk, hlv, hto⟩
    refine ⟨_, rfl, by show 0 ≤ sizeLine; omega, fun eA heA => ?_⟩
    have sE : Same H2 (upd H2 eA (.lst [])) := same_new heA _
    have aF : ∀ q ∈ l, ∀ c ∈ q, c ≤ 122 := fun q hq c hc => (G.le.az c (((hlv.2 q).mp hq).2.2.2.1 c hc)).2
    refine ⟨_, _, .lst (SqL.of (sE _ _ ha)) (dvs_ts l), .lst (SqL.of upd_same) .nil, shaped_lst aF, shaped_lst (l := []) (fun _ z => (by cases z)), _, rfl, ?_⟩
    show if (!PyData.eqvAll (l.map tD) (([] : List (List Nat)).map tD)) = true then _ else _
    rw [eqvAll_t]
    have smE := sm.trans sE
    have hfE := sE _ _ hf
    have haE := sE _ _ ha
    generalize upd H2 eA (.lst []) = H3 at smE hfE haE
    cases l with
    | nil =>
      refine iteF ⟨_, rfl, fA, _, rfl, .inl ⟨SqL.of hfE, fun p hp => ?_⟩⟩
      exact q p f _ (smE.trans (same_new hp _)) upd_same (TR.to_end hto hlv hk)
    | cons C l =>
      have hC := (hlv.2 C).mp List.mem_cons_self
      have hC5 := hC.2.len.2
      have hls := TR.lev_small up hlv hl5
      have hfs := TR.to_small up hto hl5
      refine iteT ⟨_, rfl, .inl ⟨rfl, _, SqL.of hfE⟩, _, rfl, fA, a, _, _, rfl, rfl, hfE, haE, by rw [List.length_map, List.length_map]; exact small (by omega), ?_⟩
      have s4 := same_put hfA smE (.lst (f.map tx ++ (C :: l).map tx))
      have hf4 : upd H3 fA (.lst (f.map tx ++ (C :: l).map tx)) fA = some (.lst ((f ++ C :: l).map tx)) := by rw [upd_same, List.map_append]
      have ha4 : upd H3 fA (.lst (f.map tx ++ (C :: l).map tx)) a = some (.lst ((C :: l).map tx)) := by rw [upd_ne naf]; exact haE
      generalize upd H3 fA (.lst (f.map tx ++ (C :: l).map tx)) = H4 at s4 hf4 ha4
      refine ⟨_, rfl, _, rfl, g, a, L, T, C :: l, k, rfl, G, GA.same s4, ha4, hk, hlv, fun b H5 s5 hb hb5 => ?_⟩
      have nbf : b ≠ fA := fun z => by subst z; rw [hb] at hf4; cases hf4
      have hnx := TR.lev_next Td up hk hlv
      refine ⟨⟨_, _, b, k + 1, rfl, s4.trans s5, s5 _ _ hf4, hb5, nbf, by omega, hnx, TR.to_next hto hlv⟩, ?_⟩
      have e1 : muC [some (.ref g), some (.ref fA), some (.ref a)] H2 = 10 - C.length := muC_cons ha
      have e2 : muC [some (.ref g), some (.ref fA), some (.ref b)] H5 < 10 - C.length := by
        generalize ((C :: l).flatMap (TR.nexts (tiedB T) L)) = m at hb5 hnx
        cases m with
        | nil =>
          rw [muC_nil hb5]
          omega
        | cons D m =>
          rw [muC_cons hb5]
          have hD := (hnx.2 D).mp List.mem_cons_self
          have := hD.2.len.2
          omega
      show muC _ _ < muC _ _
      rw [e1]
      exact e2
  · intro σ H Q Q' hQ hc
    obtain ⟨v, hv, h0, h1⟩ := hc
    refine ⟨v, hv, h0, fun e he => ?_⟩
    obtain ⟨d1, d2, k1, k2, k3, k4, k, h2, h3⟩ := h1 e he
    exact ⟨d1, d2, k1, k2, k3, k4, k, h2, hQ _ _ h3⟩
/-! ### heaps(ground, length) -/
abbrev sHeaps : Stmt := top 10
theorem scHeaps : FnScope ["ground", "length", "sizes", "numbers", "total"] ["ground", "length"] (defScope sHeaps) := ⟨rfl, rfl, rfl, by decide +kernel, rfl, by decide +kernel, by decide +kernel⟩
theorem ndHeaps_0 : (["crowd"] : List Str).Nodup := by decide +kernel
theorem ndHeaps_1 : (["size", "numbers", "total"] : List Str).Nodup := by decide +kernel
theorem ok_Heaps {f : Addr} {fd : FuncData} (F : Fun K "heaps" "heaps" sHeaps f fd)
    {fCrowds : Addr} {fdCrowds : FuncData} (GCrowds : FnOk P w K mg base CX0 4 fCrowds fdCrowds ["ground"] spCrowds) (bCrowds : Binds K fdCrowds ["ground"] []) (kCrowds : PySem.W.keepIn K (.ref fCrowds) = true) (mCrowds : mg "crowds" = some (.ref fCrowds))
    {fSign : Addr} {fdSign : FuncData} (GSign : FnOk P w K mg base CX0 1 fSign fdSign ["size"] spSign) (bSign : Binds K fdSign ["size"] []) (kSign : PySem.W.keepIn K (.ref fSign) = true) (mSign : mg "sign_of" = some (.ref fSign))
    (m_len : mg "len" = none) (m_range : mg "range" = none) (m_sum : mg "sum" = none)   : FnOk P w K mg base CX0 5 f fd ["ground", "length"] spHeaps := by
  refine F.okQ scHeaps (fun vs H Q E h => ?_) (fun cdv A outer s H vs Q E hr h => ?_)
  · obtain ⟨g, L, T, n, rfl, _⟩ := h
    rfl
  obtain ⟨g, L, T, n, rfl, G, GA, hn, q⟩ := h
  have hr1 : Room 1 _ := hr.mono (by decide)
  refine ⟨_, (qss_cons (qs_setComp (i := 2) (N := ["crowd"]) (k := 1) (fr := []) scHeaps.nd rfl (Or.inl rfl) (by kernel_rfl) rfl (qi_tup K (qe_call GCrowds hr rfl mCrowds kCrowds bCrowds .nil pass0 (qa_cons (qv 0) qa_nil))) (fun _ _ _ _ _ => qg_name (i := 0) ndHeaps_0 rfl (Or.inl rfl)) (fun _ _ _ _ _ => qts_nil) (fun _ _ _ _ _ => (qe_callB call_len_str rfl m_len PySem.boot_len (qa_cons (qv 0) qa_nil))) rfl)
    (qss_cons (qs_set (i := 3) scHeaps.nd rfl (Or.inr rfl) (qe_lst (qa_cons qe_int qa_nil)))
    (qss_cons (qs_for PassesOwn.never rfl (qi_range2 rfl m_range (qa_cons qe_int (qa_cons (qe_op op_add (qv 1) qe_int) qa_nil))) (qg_name (i := 4) scHeaps.nd rfl (Or.inr rfl))
      (qss_one (qs_expr (qe_bm K PySem.F.plainAttrs_list PySem.F.slot_list_append PySem.F.type_list_append mt_append (qv 3) (qa_cons (qe_callB (r := rSumI K) (c_sumI rfl) rfl m_sum (by decide +kernel) (qa_cons (qe_comp (N := ["size", "numbers", "total"]) (k := 1) (fr := [3, 4]) (by kernel_rfl) rfl (qi_list K (qv 2)) (fun _ _ _ _ _ => qg_name (i := 0) ndHeaps_1 rfl (Or.inl rfl)) (fun _ _ _ _ _ => qts_one (qt_cmp op_le (qv 0) (qv 2) (nomark _))) (fun _ _ _ _ _ => (qe_op op_mul (qe_call GSign hr1 rfl mSign kSign bSign .nil pass0 (qa_cons (qv 0) qa_nil)) (qe_ix (r := rIxL K) ix_list (qv 1) (qe_op op_sub (qv 2) (qv 0)))))) qa_nil)) qa_nil)))))
    (qss_one (qs_ret (qe_ix (r := rIxL K) ix_list (qv 3) (qv 1))))))), ?_⟩
  have Td := td_ok T
  have hl5 := G.le.l5
  have up := G.le.up
  refine ⟨_, rfl, g, L, T, rfl, G, GA, fun p CL H1 s1 hp hCL => ⟨p, rfl, ⟨_, SqT.of hp⟩, fun D hD => ?_⟩⟩
  have hcl := hCL.len up hl5
  refine comp_val (α := List Nat) (as_ := CL) (fr := []) (by rw [List.length_map]) (yields_tup (SqT.of hp)) hD (by rw [List.length_map]; exact small (by omega)) (fun _ => true) (fun C => .int ((S C).length : Nat)) (fun j x d H' Qb hx hd sm' k => k H' (Same.refl _)) (fun j x C H' Qv hx hd _ sm' k => ?_) fun H2 s2 hd2 => ?_
  · cases getI_map hx hd
    have := ((hCL.2 C).mp (List.mem_of_getElem? hd)).len
    exact ⟨_, rfl, S C, rfl, by rw [S_len]; exact small (by omega), k H' (Same.refl _)⟩
  rw [filter_yes] at hd2
  have sm2 := s1.trans s2
  have hD0 : H D = none := s1.free hD
  refine ⟨by show 1 ≤ sizeLine; exact small (by decide), fun nA hnA => ?_⟩
  have ndn : D ≠ nA := fun z => by subst z; rw [hd2] at hnA; cases hnA
  have hnA0 : H nA = none := sm2.free hnA
  have s3 := sm2.trans (same_new hnA (.lst [.int 1]))
  have hd3 : upd H2 nA (.lst [.int 1]) D = some (.lst (CL.map fun C => .int ((S C).length : Nat))) := by rw [upd_ne ndn]; exact hd2
  have hn3 : upd H2 nA (.lst [.int 1]) nA = some (.lst ((List.range (0 + 1)).map fun k => V.int (TR.hp (tiedB T) L k : Nat))) := by
    rw [upd_same]
    show some (HO.lst [V.int 1]) = some (HO.lst [V.int ((TR.hp (tiedB T) L 0 : Nat) : Int)])
    rw [TR.hp_zero]
    rfl
  generalize upd H2 nA (.lst [.int 1]) = H3 at s3 hd3 hn3
  refine ⟨_, rfl, _, _, rfl, rfl, 1, (n : Int) + 1, rfl, by omega, ?_⟩
  rw [show ((n : Int) + 1 - 1).toNat = n by omega]
  refine for_range (lo := 1) (n := n) (fun i σ H4 => ∃ x4 : Option V, σ = [some (.ref g), some (.int n), some (.ref D), some (.ref nA), x4] ∧ Same H H4 ∧ H4 D = some (.lst (CL.map fun C => .int ((S C).length : Nat))) ∧ H4 nA = some (.lst ((List.range (i + 1)).map fun k => V.int (TR.hp (tiedB T) L k : Nat))))
    ⟨none, rfl, s3, hd3, hn3⟩ ?_ ?_
  · rintro i σ H4 hi ⟨x4, rfl, sm4, hd4, hn4⟩
    have ei : (1 : Int) + (i : Int) = ((i + 1 : Nat) : Int) := by omega
    rw [ei]
    refine ⟨_, rfl, .inl ⟨rfl, _, SqL.of hn4⟩, _, rfl, D, rfl, ⟨_, SqL.of hd4⟩, fun E hE => ?_⟩
    refine comp_val (α := List Nat) (as_ := CL) (fr := [3, 4]) (by rw [List.length_map]) (yields_list (SqL.of hd4)) hE (by rw [List.length_map]; exact small (by omega)) (fun C => decide ((C.length : Int) ≤ ((i + 1 : Nat) : Int))) (fun C => .int (-(TR.sg C.length) * (TR.hp (tiedB T) L (i + 1 - C.length) : Nat))) (fun j x C H' Qb hx hd sm' k => ?_) (fun j x C H' Qv hx hd hp' sm' k => ?_) fun H5 s5 hd5 => ?_
    · cases getI_map hx hd
      have k := k H' (Same.refl _)
      rw [← S_len] at k
      exact ⟨_, rfl, _, rfl, _, _, rfl, rfl, _, rfl, k⟩
    · cases getI_map hx hd
      have hC := ((hCL.2 C).mp (List.mem_of_getElem? hd)).len
      have hle : C.length ≤ i + 1 := by have := of_decide_eq_true hp'; omega
      have hsl := S_len C
      refine ⟨_, rfl, C.length, by rw [hsl]; rfl, fun H'' s'' => ?_⟩
      refine ⟨_, rfl, _, rfl, _, rfl, _, _, rfl, rfl, nA, _, ((i + 1 - C.length : Nat) : Int), V.int (TR.hp (tiedB T) L (i + 1 - C.length) : Nat), rfl, ?_, SqL.of (s'' _ _ (sm' _ _ hn4)), atI_nat ?_, _, _, rfl, rfl, .inl ?_, k H'' s''⟩
      · rw [hsl]
        exact congrArg V.int (by omega)
      · rw [List.getElem?_map, List.getElem?_range (by omega)]
        rfl
      · unfold TR.sg
        rcases Nat.mod_two_eq_zero_or_one C.length with h | h <;> rw [h] <;> decide
    · have s6 := sm4.trans s5
      have hn5 := s5 _ _ hn4
      have esum : ((CL.filter fun C => decide ((C.length : Int) ≤ ((i + 1 : Nat) : Int))).map fun C => -(TR.sg C.length) * (TR.hp (tiedB T) L (i + 1 - C.length) : Int)).sum = (TR.hp (tiedB T) L (i + 1) : Nat) := by
        rw [TR.sum_turns]
        have := TR.by_list Td up hCL (n := i + 1) (by omega)
        omega
      refine ⟨E, (CL.filter fun C => decide ((C.length : Int) ≤ ((i + 1 : Nat) : Int))).map fun C => -(TR.sg C.length) * (TR.hp (tiedB T) L (i + 1 - C.length) : Int), rfl, SqL.of (by rw [hd5, List.map_map]; rfl), ?_⟩
      rw [esum]
      refine ⟨nA, _, _, rfl, rfl, hn5, by rw [List.length_map, List.length_range]; exact Nat.lt_of_lt_of_le (by omega : i + 1 < 1000) (small (by decide)), _, rfl, same_put hnA0 s6 _, by rw [upd_ne ndn]; exact s5 _ _ hd4, ?_⟩
      rw [upd_same, List.range_succ (n := i + 1), List.map_append]
      rfl
  · rintro σ H4 ⟨x4, rfl, sm4, hd4, hn4⟩
    refine ⟨_, rfl, _, rfl, nA, _, (n : Int), V.int (TR.hp (tiedB T) L n : Nat), rfl, rfl, SqL.of hn4, atI_nat ?_, q H4 sm4⟩
    rw [List.getElem?_map, List.getElem?_range (by omega)]
    rfl
end
end K12

namespace K12
open PySem L2 HW PyProof.Rows
section
variable {P : Program} {w : World} {K : PySem.W.Frag} {mg : Str → Option Value} {base : Heap}
/-! ### law(_law_script) -/
abbrev sLaw : Stmt := top 27
theorem scLaw : FnScope ["_law_script", "_law_ground_here", "_law_found", "_law_size", "_law_words", "_law_cell_here", "_law_due", "_law_crowd"] ["_law_script"] (defScope sLaw) := ⟨rfl, rfl, rfl, by decide +kernel, rfl, by decide +kernel, by decide +kernel⟩
theorem ndLaw_0 : (["_law_word_here", "_law_ground_here"] : List Str).Nodup := by decide +kernel
theorem ok_Law {f : Addr} {fd : FuncData} (F : Fun K "law" "law" sLaw f fd)
    {fGround : Addr} {fdGround : FuncData} (GGround : FnOk P w K mg base CX0 3 fGround fdGround ["_law_script"] (spGround K)) (bGround : Binds K fdGround ["_law_script"] []) (kGround : PySem.W.keepIn K (.ref fGround) = true) (mGround : mg "_law_ground" = some (.ref fGround))
    {fCrowds : Addr} {fdCrowds : FuncData} (GCrowds : FnOk P w K mg base CX0 4 fCrowds fdCrowds ["ground"] spCrowds) (bCrowds : Binds K fdCrowds ["ground"] []) (kCrowds : PySem.W.keepIn K (.ref fCrowds) = true) (mCrowds : mg "crowds" = some (.ref fCrowds))
    {fHeaps : Addr} {fdHeaps : FuncData} (GHeaps : FnOk P w K mg base CX0 5 fHeaps fdHeaps ["ground", "length"] spHeaps) (bHeaps : Binds K fdHeaps ["ground", "length"] []) (kHeaps : PySem.W.keepIn K (.ref fHeaps) = true) (mHeaps : mg "heaps" = some (.ref fHeaps))
    {fLCrowds : Addr} {fdLCrowds : FuncData} (GLCrowds : FnOk P w K mg base CX0 2 fLCrowds fdLCrowds ["_law_ground_here"] spCrowds) (bLCrowds : Binds K fdLCrowds ["_law_ground_here"] []) (kLCrowds : PySem.W.keepIn K (.ref fLCrowds) = true) (mLCrowds : mg "_law_crowds" = some (.ref fLCrowds))
    {fAllW : Addr} {fdAllW : FuncData} (GAllW : FnOk P w K mg base CX0 1 fAllW fdAllW ["_law_letters_here", "_law_size"] spAllW) (bAllW : Binds K fdAllW ["_law_letters_here", "_law_size"] []) (kAllW : PySem.W.keepIn K (.ref fAllW) = true) (mAllW : mg "_law_all" = some (.ref fAllW))
    {fPlain : Addr} {fdPlain : FuncData} (GPlain : FnOk P w K mg base CX0 5 fPlain fdPlain ["ground", "word"] spPlain) (bPlain : Binds K fdPlain ["ground", "word"] []) (kPlain : PySem.W.keepIn K (.ref fPlain) = true) (mPlain : mg "plain" = some (.ref fPlain))
    {fWhole : Addr} {fdWhole : FuncData} (GWhole : FnOk P w K mg base CX0 1 fWhole fdWhole ["_law_found"] spWhole) (bWhole : Binds K fdWhole ["_law_found"] []) (kWhole : PySem.W.keepIn K (.ref fWhole) = true) (mWhole : mg "_law_whole" = some (.ref fWhole))
    {fCell : Addr} {fdCell : FuncData} (GCell : FnOk P w K mg base CX0 1 fCell fdCell ["_law_script", "_law_k"] (spCell K)) (bCell : Binds K fdCell ["_law_script", "_law_k"] []) (kCell : PySem.W.keepIn K (.ref fCell) = true) (mCell : mg "_law_cell" = some (.ref fCell))
    (m_int : mg "int" = none) (m_isinstance : mg "isinstance" = none) (m_len : mg "len" = none) (m_range : mg "range" = none) (m_tuple : mg "tuple" = none)   : FnOk P w K mg base CX0 8 f fd ["_law_script"] (spLaw K) := by
  refine F.okQ scLaw (fun vs H Q E h => ?_) (fun cdv A outer s H vs Q E hr h => ?_)
  · obtain ⟨a, ns, rfl, _⟩ := h
    rfl
  obtain ⟨a, ns, rfl, hS, h63, q⟩ := h
  have hr1 : Room 1 _ := hr.mono (by decide)
  have hr2 : Room 2 _ := hr.mono (by decide)
  have hr3 : Room 3 _ := hr.mono (by decide)
  have hr4 : Room 4 _ := hr.mono (by decide)
  have hr5 : Room 5 _ := hr.mono (by decide)
  refine ⟨_, (qss_cons (qs_set (i := 1) scLaw.nd rfl (Or.inr rfl) (qe_call GGround hr3 rfl mGround kGround bGround .nil pass0 (qa_cons (qv 0) qa_nil)))
    (qss_cons (qs_set (i := 2) scLaw.nd rfl (Or.inl rfl) (qe_call GCrowds hr4 rfl mCrowds kCrowds bCrowds .nil pass0 (qa_cons (qv 1) qa_nil)))
    (qss_cons (qs_if (qw_pt (qw_or (qt_not (qt_val (qe_callB (r := rIsInst K) c_isinst rfl m_isinstance (by decide +kernel) (qa_cons (qv 2) (qa_cons (qe_bltn (v := .ty "tuple") rfl m_tuple (by decide +kernel) rfl) qa_nil))))) (qw_or (qt_cmp (r := rNeD K) (o_neD hr.units) (qv 2) (qe_call GLCrowds hr2 rfl mLCrowds kLCrowds bLCrowds .nil pass0 (qa_cons (qv 1) qa_nil)) (nomark _)) (qw_or1 (qt_cmp op_ne (qe_call GHeaps hr5 rfl mHeaps kHeaps bHeaps .nil pass0 (qa_cons (qv 1) (qa_cons qe_int qa_nil))) qe_int (nomark _)))))) (qss_one (qs_ret qe_bl)) qss_nil)
    (qss_cons (qs_for PassesOwn.never rfl (qi_range2 rfl m_range (qa_cons qe_int (qa_cons (qe_op op_add qe_int (qe_callTy call_int1 rfl m_int (by decide +kernel) (qa_cons (qe_cmp op_lt (qe_callB call_len_str rfl m_len PySem.boot_len (qa_cons (qe_ix (r := rIxT K) ix_tup (qv 1) qe_int) qa_nil)) qe_int (nomark _)) qa_nil))) qa_nil))) (qg_name (i := 3) scLaw.nd rfl (Or.inl rfl))
      (qss_cons (qs_setComp (i := 4) (N := ["_law_word_here", "_law_ground_here"]) (k := 1) (fr := [1]) scLaw.nd rfl (Or.inl rfl) (by kernel_rfl) rfl (qi_list K (qe_call GAllW hr1 rfl mAllW kAllW bAllW .nil pass0 (qa_cons (qe_ix (r := rIxT K) ix_tup (qv 1) qe_int) (qa_cons (qv 3) qa_nil)))) (fun _ _ _ _ _ => qg_name (i := 0) ndLaw_0 rfl (Or.inl rfl)) (fun _ _ _ _ _ => qts_one (qt_cmp op_eq (qe_call GPlain hr5 rfl mPlain kPlain bPlain .nil pass0 (qa_cons (qv 1) (qa_cons (qv 0) qa_nil))) (qv 0) (nomark _))) (fun _ _ _ _ _ => (qv 0)) rfl)
    (qss_one (qs_if (qw_pt (qw_or (qt_not (qt_val (qe_call GWhole hr1 rfl mWhole kWhole bWhole .nil pass0 (qa_cons (qe_call GHeaps hr5 rfl mHeaps kHeaps bHeaps .nil pass0 (qa_cons (qv 1) (qa_cons (qv 3) qa_nil))) qa_nil)))) (qw_or1 (qt_cmp op_ne (qe_call GHeaps hr5 rfl mHeaps kHeaps bHeaps .nil pass0 (qa_cons (qv 1) (qa_cons (qv 3) qa_nil))) (qe_callB (r := rLenSeq K) c_len_seq rfl m_len PySem.boot_len (qa_cons (qv 4) qa_nil)) (nomark _))))) (qss_one (qs_ret qe_bl)) qss_nil))))
    (qss_cons (qs_set (i := 5) scLaw.nd rfl (Or.inl rfl) (qe_call GCell hr1 rfl mCell kCell bCell .nil pass0 (qa_cons (qv 0) (qa_cons qe_int qa_nil))))
    (qss_cons (qs_set (i := 3) scLaw.nd rfl (Or.inl rfl) (qe_op op_add qe_int (qe_op op_mod (qv 5) (qe_ix (r := rIxL K) ix_list (qe_lst (qa_cons qe_int (qa_cons qe_int qa_nil))) (qe_callTy call_int1 rfl m_int (by decide +kernel) (qa_cons (qe_cmp op_eq (qe_op op_mod (qv 5) qe_int) qe_int (nomark _)) qa_nil))))))
    (qss_cons (qs_set (i := 6) scLaw.nd rfl (Or.inl rfl) (qe_call GHeaps hr5 rfl mHeaps kHeaps bHeaps .nil pass0 (qa_cons (qv 1) (qa_cons (qv 3) qa_nil))))
    (qss_cons (qs_for PassesOwn.never rfl (qi_tup K (qv 2)) (qg_name (i := 7) scLaw.nd rfl (Or.inl rfl))
      (qss_one (qs_set (i := 6) scLaw.nd rfl (Or.inl rfl) (qe_op op_add (qv 6) (qe_op op_mul (qe_call GHeaps hr5 rfl mHeaps kHeaps bHeaps .nil pass0 (qa_cons (qv 1) (qa_cons (qe_op op_sub (qv 3) (qe_callB call_len_str rfl m_len PySem.boot_len (qa_cons (qv 7) qa_nil))) qa_nil))) (qe_op op_sub qe_int (qe_op op_mul qe_int (qe_op op_mod (qe_callB call_len_str rfl m_len PySem.boot_len (qa_cons (qv 7) qa_nil)) qe_int))))))))
    (qss_one (qs_ret (qe_cmp op_eq (qv 6) qe_int (nomark _)))))))))))), ?_⟩
  refine ⟨_, rfl, a, ns, rfl, hS, fun L T g H1 s1 G GA => ?_⟩
  obtain ⟨t1, g1, _⟩ := id GA
  have hl5 := G.le.l5
  have hl1 := G.le.l1
  have up := G.le.up
  have Td := td_ok T
  have hzL : (S L).length ≤ sizeLine := by rw [S_len]; exact small (by omega)
  refine ⟨_, rfl, g, L, T, rfl, G, GA, fun p CL H2 s2 hp hCL => ?_⟩
  have hcl := hCL.len up hl5
  have aF : ∀ q ∈ CL, ∀ c ∈ q, c ≤ 122 := fun q hq c hc => (G.le.az c (((hCL.2 q).mp hq).2.2.1 c hc)).2
  refine ⟨_, rfl, _, "tuple", .type "tuple", true, rfl, .tup hp, if_pos (beq_self_eq_true _), _, rfl, iteF ?_⟩
  refine ⟨_, rfl, _, rfl, g, L, T, rfl, G, GA.same s2, fun p2 CL2 H3 s3 hp2 hCL2 => ?_⟩
  cases hCL.one hCL2
  refine ⟨_, _, .tup (SqT.of (s3 _ _ hp)) (dvs_ts CL), .tup (SqT.of hp2) (dvs_ts CL), shaped_tup aF, shaped_tup aF, _, rfl, ?_⟩
  show if (!PyData.eqvAll (CL.map tD) (CL.map tD)) = true then _ else _
  rw [eqvAll_t, decide_eq_true rfl]
  have sm3 := s2.trans s3
  refine iteF ⟨_, rfl, g, L, T, 0, rfl, G, GA.same sm3, by omega, fun H4 s4 => ⟨rfl, _, rfl, iteNI (by rw [TR.hp_zero]; rfl) ?_⟩⟩
  have sm4 := sm3.trans s4
  have hp4 := s4 _ _ (s3 _ _ hp)
  refine ⟨_, rfl, g, _, 0, tx L, rfl, rfl, SqT.of (sm4 _ _ g1), rfl, S L, rfl, hzL, _, _, rfl, rfl, .inr ⟨_, rfl, _, _, rfl, rfl, ?_⟩⟩
  generalize hb : (if decide (((S L).length : Nat) < (4 : Int)) = true then (1 : Int) else 0) = b
  have hb1 : 0 ≤ b ∧ b ≤ 1 := by rw [← hb]; split <;> omega
  refine ⟨1, 4 + b, rfl, by omega, ?_⟩
  have hn4 : (4 + b - 1).toNat ≤ 4 := by omega
  generalize (4 + b - 1).toNat = n4 at hn4
  refine for_range (lo := 1) (n := n4) (fun i σ H5 => ∃ x3 x4 : Option V, σ = [some (.ref a), some (.ref g), some (.ref p), x3, x4, none, none, none] ∧ Same H1 H5 ∧ H5 p = some (.tup (CL.map tx)))
    ⟨none, none, rfl, sm4, hp4⟩ ?_ ?_
  · rintro i σ H5 hi ⟨x3, x4, rfl, sm5, hp5⟩
    have ei : (1 : Int) + (i : Int) = ((i + 1 : Nat) : Int) := by omega
    rw [ei]
    refine ⟨_, rfl, g, _, 0, tx L, rfl, rfl, SqT.of (sm5 _ _ g1), rfl, _, rfl, L, i + 1, rfl, hl5, by omega, fun w H6 s6 hw0 hw => ⟨w, rfl, ⟨_, SqL.of hw⟩, fun D hD => ?_⟩⟩
    have sm6 := sm5.trans s6
    have hal : (TR.allW L (i + 1)).length ≤ 625 := by
      rw [TR.len_allW]
      have h1 : L.length ^ (i + 1) ≤ 5 ^ (i + 1) := Nat.pow_le_pow_left hl5 _
      have h2 : 5 ^ (i + 1) ≤ 5 ^ 4 := Nat.pow_le_pow_right (by decide) (by omega)
      exact Nat.le_trans h1 h2
    refine comp_val (α := List Nat) (as_ := TR.allW L (i + 1)) (fr := [1]) (by rw [List.length_map]) (yields_list (SqL.of hw)) hD (by rw [List.length_map]; exact small (by omega)) (fun v => decide (TR.pl (tiedB T) v = v)) tx (fun j x v H' Qb hx hv sm' k => ?_) (fun j x v H' Qv hx hv _ sm' k => ?_) fun H7 s7 hd7 => ?_
    · cases getI_map hx hv
      obtain ⟨v1, v2⟩ := TR.mem_allW.mp (List.mem_of_getElem? hv)
      refine ⟨_, rfl, _, rfl, g, L, T, v, rfl, G, GA.same (sm6.trans sm'), v2, by omega, fun H'' s'' => ⟨_, rfl, rfl, _, rfl, ?_⟩⟩
      rw [tx_dec]
      exact k H'' s''
    · cases getI_map hx hv
      exact ⟨_, rfl, k H' (Same.refl _)⟩
    have sm7 := sm6.trans s7
    have hp7 := s7 _ _ (s6 _ _ hp5)
    refine ⟨_, rfl, _, rfl, g, L, T, i + 1, rfl, G, GA.same sm7, by omega, fun H8 s8 => ⟨_, rfl, fun H9 s9 => ⟨_, rfl, iteF ?_⟩⟩⟩
    have sm9 := (sm7.trans s8).trans s9
    refine ⟨_, rfl, _, rfl, g, L, T, i + 1, rfl, G, GA.same sm9, by omega, fun H10 s10 => ?_⟩
    have hd10 := s10 _ _ (s9 _ _ (s8 _ _ hd7))
    refine ⟨_, rfl, D, _, rfl, .inl (SqL.of hd10), rfl, _, rfl, iteNI ?_ ?_⟩
    · rw [List.length_map]
      rfl
    · exact ⟨_, _, rfl, sm9.trans s10, s10 _ _ (s9 _ _ (s8 _ _ hp7))⟩
  · rintro σ H5 ⟨x3, x4, rfl, sm5, hp5⟩
    refine ⟨_, rfl, a, ns, 2, rfl, (s1.trans sm5).seq hS, by omega, ?_⟩
    generalize (ns[(2 : Int).toNat]?).getD 0 = c
    refine ⟨_, rfl, by show 2 ≤ sizeLine; exact small (by decide), fun lA hlA => ?_⟩
    have sA : Same H5 (upd H5 lA (.lst [.int 12, .int 36])) := same_new hlA _
    refine ⟨_, rfl, _, _, rfl, rfl, (by show (0 : Int) < 4; decide), rfl, .inr ⟨_, rfl, ?_⟩⟩
    obtain ⟨ix, m, hix, hat, hm0, hm1⟩ : ∃ (ix m : Int), (if decide (V.int (c % 4) = V.int 0) = true then (1 : Int) else 0) = ix ∧ atI [V.int 12, V.int 36] ix = some (V.int m) ∧ 0 < m ∧ m ≤ 36 := by
      cases decide (V.int (c % 4) = V.int 0) with
      | true => exact ⟨1, 36, rfl, rfl, by decide, by decide⟩
      | false => exact ⟨0, 12, rfl, rfl, by decide, by decide⟩
    rw [hix]
    refine ⟨lA, _, ix, .int m, rfl, rfl, SqL.of upd_same, hat, _, _, rfl, rfl, hm0, _, _, rfl, rfl, ?_⟩
    have c0 := Int.emod_nonneg c (show m ≠ 0 by omega)
    have c1 := Int.emod_lt_of_pos c hm0
    obtain ⟨n, hn⟩ : ∃ n : Nat, 5 + c % m = (n : Int) := ⟨(5 + c % m).toNat, by omega⟩
    dsimp only
    rw [hn]
    have hn5 : 5 ≤ n := by omega
    have hn41 : n ≤ 41 := by omega
    have sm6 := sm5.trans sA
    have hp6 := sA _ _ hp5
    generalize upd H5 lA (.lst [.int 12, .int 36]) = H6 at sm6 hp6
    refine ⟨_, rfl, _, rfl, g, L, T, n, rfl, G, GA.same sm6, by omega, fun H7 s7 => ?_⟩
    have sm7 := sm6.trans s7
    have hp7 := s7 _ _ hp6
    refine ⟨_, rfl, p, rfl, ⟨_, SqT.of hp7⟩, ?_⟩
    refine for_tup (K := K) (a := p) (xs := CL.map tx) (fun j σ H8 => ∃ x7 : Option V, σ = [some (.ref a), some (.ref g), some (.ref p), some (.int n), x4, some (.int c), some (.int ((TR.hp (tiedB T) L n : Int) + TR.sumI (fun C => (TR.hp (tiedB T) L (n - C.length) : Int) * TR.sg C.length) (CL.take j))), x7] ∧ Same H1 H8 ∧ H8 p = some (.tup (CL.map tx)))
      ⟨none, by rw [List.take_zero]; show _ = [_, _, _, _, _, _, some (V.int (_ + 0)), _]; rw [Int.add_zero]; rfl, sm7, hp7⟩ (fun _ _ _ _ ⟨_, _, _, h⟩ => SqT.of h) ?_ ?_
    · rintro j x σ H8 hx ⟨x7, rfl, sm8, hp8⟩
      obtain ⟨C, hC, rfl⟩ := map_tx_get hx
      have hlC := ((hCL.2 C).mp (List.mem_of_getElem? hC)).len
      have hzC : (S C).length ≤ sizeLine := by rw [S_len]; exact small (by omega)
      refine ⟨_, rfl, _, rfl, _, rfl, _, rfl, S C, rfl, hzC, _, _, rfl, rfl, g, L, T, n - C.length, by rw [S_len]; exact congrArg (fun t => [V.ref g, V.int t]) (by omega), G, GA.same sm8, by omega, fun H9 s9 => ?_⟩
      refine ⟨_, rfl, S C, rfl, hzC, _, _, rfl, rfl, (by show (0 : Int) < 2; decide), _, _, rfl, rfl, .inl ⟨by decide, by decide⟩, _, _, rfl, rfl, _, _, rfl, rfl, .inr ?_, _, _, rfl, rfl, ?_⟩
      · rw [S_len]
        constructor <;> omega
      · refine ⟨some (tx C), ?_, sm8.trans s9, s9 _ _ hp8⟩
        have e1 : (TR.hp (tiedB T) L n : Int) + TR.sumI (fun C => (TR.hp (tiedB T) L (n - C.length) : Int) * TR.sg C.length) (CL.take j) + (TR.hp (tiedB T) L (n - C.length) : Int) * (1 - 2 * (((S C).length : Nat) % 2 : Int)) = (TR.hp (tiedB T) L n : Int) + TR.sumI (fun C => (TR.hp (tiedB T) L (n - C.length) : Int) * TR.sg C.length) (CL.take (j + 1)) := by
          have ef : (1 - 2 * (((S C).length : Nat) % 2 : Int)) = TR.sg C.length := by
            rw [S_len]
            unfold TR.sg
            omega
          rw [ef, List.take_add_one, hC, TR.sumI_app, Int.add_assoc]
          show _ = _ + (_ + ((TR.hp (tiedB T) L (n - C.length) : Int) * TR.sg C.length + 0))
          rw [Int.add_zero]
        exact congrArg (fun t : Int => [some (V.ref a), some (.ref g), some (.ref p), some (.int n), x4, some (.int c), some (.int t), some (tx C)]) e1
    · rintro σ H8 ⟨x7, rfl, sm8, hp8⟩
      rw [List.length_map, List.take_length]
      have h0 : (TR.hp (tiedB T) L n : Int) + TR.sumI (fun C => (TR.hp (tiedB T) L (n - C.length) : Int) * TR.sg C.length) CL = 0 := by
        rw [← TR.by_list Td up hCL (n := n) (by omega)]
        congr 1
        refine TR.sumI_congr fun C hC => ?_
        have := ((hCL.2 C).mp hC).len
        rw [if_pos (by omega), Int.mul_comm]
      rw [h0]
      exact ⟨_, rfl, rfl, q H8⟩
end
end K12
namespace K12
open PySem L2 HW PyProof.Rows
/-! ## the top: the defs stand there as the text says -/
theorem all_mk {l : PySem.W.OpenLaw} {w : World} {K : PySem.W.Frag} {h : Heap} {mg : Str → Option Value} {fa f0 f1 f2 f3 f4 f5 f6 f7 f8 f9 f10 f11 f12 f13 f14 f15 f16 f17 f18 : Addr} (X : K.In h) (G : h.Ns mainGlobals mg) (hfa : mg "law" = some (.ref fa))
    {od0 an0 od1 an1 od2 an2 od3 an3 od4 an4 od5 an5 od6 an6 od7 an7 od8 an8 od9 an9 od10 an10 od11 an11 od12 an12 od13 an13 od14 an14 od15 an15 od16 an16 od17 an17 od18 an18 : Option Addr} {sl0 sl1 sl2 sl3 sl4 sl5 sl6 sl7 sl8 sl9 sl10 sl11 sl12 sl13 sl14 sl15 sl16 sl17 sl18 : Array (Option Value)} {oc0 kV0 dc0 pm0 cd0 ct0 oc1 kV1 dc1 pm1 cd1 ct1 oc2 kV2 dc2 pm2 cd2 ct2 oc3 kV3 dc3 pm3 cd3 ct3 oc4 kV4 dc4 pm4 cd4 ct4 oc5 kV5 dc5 pm5 cd5 ct5 oc6 kV6 dc6 pm6 cd6 ct6 oc7 kV7 dc7 pm7 cd7 ct7 oc8 kV8 dc8 pm8 cd8 ct8 oc9 kV9 dc9 pm9 cd9 ct9 oc10 kV10 dc10 pm10 cd10 ct10 oc11 kV11 dc11 pm11 cd11 ct11 oc12 kV12 dc12 pm12 cd12 ct12 oc13 kV13 dc13 pm13 cd13 ct13 oc14 kV14 dc14 pm14 cd14 ct14 oc15 kV15 dc15 pm15 cd15 ct15 oc16 kV16 dc16 pm16 cd16 ct16 oc17 kV17 dc17 pm17 cd17 ct17 oc18 kV18 dc18 pm18 cd18 ct18 : Value}
    (a0 : PySem.W.nsIn K mainGlobals "_law_cell" = some (some (.ref f0))) (l0 : K.lookup f0 = some ⟨oc0, od0, .func (PySem.W.fnOf "_law_cell" "_law_cell" (defArgs sCell) (defBody sCell) (defScope sCell) .none kV0 dc0 pm0 an0 cd0 ct0), sl0⟩) (c0 : PySem.W.codeIn K cd0 "_law_cell" = true) (k0 : PySem.W.keepIn K (.ref f0) = true)
    (a1 : PySem.W.nsIn K mainGlobals "_law_mix" = some (some (.ref f1))) (l1 : K.lookup f1 = some ⟨oc1, od1, .func (PySem.W.fnOf "_law_mix" "_law_mix" (defArgs sMix) (defBody sMix) (defScope sMix) .none kV1 dc1 pm1 an1 cd1 ct1), sl1⟩) (c1 : PySem.W.codeIn K cd1 "_law_mix" = true) (k1 : PySem.W.keepIn K (.ref f1) = true)
    (a2 : PySem.W.nsIn K mainGlobals "_law_letters" = some (some (.ref f2))) (l2 : K.lookup f2 = some ⟨oc2, od2, .func (PySem.W.fnOf "_law_letters" "_law_letters" (defArgs sLetters) (defBody sLetters) (defScope sLetters) .none kV2 dc2 pm2 an2 cd2 ct2), sl2⟩) (c2 : PySem.W.codeIn K cd2 "_law_letters" = true) (k2 : PySem.W.keepIn K (.ref f2) = true)
    (a3 : PySem.W.nsIn K mainGlobals "_law_ground" = some (some (.ref f3))) (l3 : K.lookup f3 = some ⟨oc3, od3, .func (PySem.W.fnOf "_law_ground" "_law_ground" (defArgs sGround) (defBody sGround) (defScope sGround) .none kV3 dc3 pm3 an3 cd3 ct3), sl3⟩) (c3 : PySem.W.codeIn K cd3 "_law_ground" = true) (k3 : PySem.W.keepIn K (.ref f3) = true)
    (a4 : PySem.W.nsIn K mainGlobals "_law_tied" = some (some (.ref f4))) (l4 : K.lookup f4 = some ⟨oc4, od4, .func (PySem.W.fnOf "_law_tied" "_law_tied" (defArgs sLTied) (defBody sLTied) (defScope sLTied) .none kV4 dc4 pm4 an4 cd4 ct4), sl4⟩) (c4 : PySem.W.codeIn K cd4 "_law_tied" = true) (k4 : PySem.W.keepIn K (.ref f4) = true)
    (a5 : PySem.W.nsIn K mainGlobals "_law_whole" = some (some (.ref f5))) (l5 : K.lookup f5 = some ⟨oc5, od5, .func (PySem.W.fnOf "_law_whole" "_law_whole" (defArgs sWhole) (defBody sWhole) (defScope sWhole) .none kV5 dc5 pm5 an5 cd5 ct5), sl5⟩) (c5 : PySem.W.codeIn K cd5 "_law_whole" = true) (k5 : PySem.W.keepIn K (.ref f5) = true)
    (a6 : PySem.W.nsIn K mainGlobals "_law_all" = some (some (.ref f6))) (l6 : K.lookup f6 = some ⟨oc6, od6, .func (PySem.W.fnOf "_law_all" "_law_all" (defArgs sAllW) (defBody sAllW) (defScope sAllW) .none kV6 dc6 pm6 an6 cd6 ct6), sl6⟩) (c6 : PySem.W.codeIn K cd6 "_law_all" = true) (k6 : PySem.W.keepIn K (.ref f6) = true)
    (a7 : PySem.W.nsIn K mainGlobals "_law_crowds" = some (some (.ref f7))) (l7 : K.lookup f7 = some ⟨oc7, od7, .func (PySem.W.fnOf "_law_crowds" "_law_crowds" (defArgs sLCrowds) (defBody sLCrowds) (defScope sLCrowds) .none kV7 dc7 pm7 an7 cd7 ct7), sl7⟩) (c7 : PySem.W.codeIn K cd7 "_law_crowds" = true) (k7 : PySem.W.keepIn K (.ref f7) = true)
    (a8 : PySem.W.nsIn K mainGlobals "is_tied" = some (some (.ref f8))) (l8 : K.lookup f8 = some ⟨oc8, od8, .func (PySem.W.fnOf "is_tied" "is_tied" (defArgs sIsTied) (defBody sIsTied) (defScope sIsTied) .none kV8 dc8 pm8 an8 cd8 ct8), sl8⟩) (c8 : PySem.W.codeIn K cd8 "is_tied" = true) (k8 : PySem.W.keepIn K (.ref f8) = true)
    (a9 : PySem.W.nsIn K mainGlobals "any_tied" = some (some (.ref f9))) (l9 : K.lookup f9 = some ⟨oc9, od9, .func (PySem.W.fnOf "any_tied" "any_tied" (defArgs sAnyTied) (defBody sAnyTied) (defScope sAnyTied) .none kV9 dc9 pm9 an9 cd9 ct9), sl9⟩) (c9 : PySem.W.codeIn K cd9 "any_tied" = true) (k9 : PySem.W.keepIn K (.ref f9) = true)
    (a10 : PySem.W.nsIn K mainGlobals "is_first" = some (some (.ref f10))) (l10 : K.lookup f10 = some ⟨oc10, od10, .func (PySem.W.fnOf "is_first" "is_first" (defArgs sIsFirst) (defBody sIsFirst) (defScope sIsFirst) .none kV10 dc10 pm10 an10 cd10 ct10), sl10⟩) (c10 : PySem.W.codeIn K cd10 "is_first" = true) (k10 : PySem.W.keepIn K (.ref f10) = true)
    (a11 : PySem.W.nsIn K mainGlobals "without" = some (some (.ref f11))) (l11 : K.lookup f11 = some ⟨oc11, od11, .func (PySem.W.fnOf "without" "without" (defArgs sWithout) (defBody sWithout) (defScope sWithout) .none kV11 dc11 pm11 an11 cd11 ct11), sl11⟩) (c11 : PySem.W.codeIn K cd11 "without" = true) (k11 : PySem.W.keepIn K (.ref f11) = true)
    (a12 : PySem.W.nsIn K mainGlobals "firsts" = some (some (.ref f12))) (l12 : K.lookup f12 = some ⟨oc12, od12, .func (PySem.W.fnOf "firsts" "firsts" (defArgs sFirsts) (defBody sFirsts) (defScope sFirsts) .none kV12 dc12 pm12 an12 cd12 ct12), sl12⟩) (c12 : PySem.W.codeIn K cd12 "firsts" = true) (k12 : PySem.W.keepIn K (.ref f12) = true)
    (a13 : PySem.W.nsIn K mainGlobals "plain" = some (some (.ref f13))) (l13 : K.lookup f13 = some ⟨oc13, od13, .func (PySem.W.fnOf "plain" "plain" (defArgs sPlain) (defBody sPlain) (defScope sPlain) .none kV13 dc13 pm13 an13 cd13 ct13), sl13⟩) (c13 : PySem.W.codeIn K cd13 "plain" = true) (k13 : PySem.W.keepIn K (.ref f13) = true)
    (a14 : PySem.W.nsIn K mainGlobals "crowds_one_longer" = some (some (.ref f14))) (l14 : K.lookup f14 = some ⟨oc14, od14, .func (PySem.W.fnOf "crowds_one_longer" "crowds_one_longer" (defArgs sLonger) (defBody sLonger) (defScope sLonger) .none kV14 dc14 pm14 an14 cd14 ct14), sl14⟩) (c14 : PySem.W.codeIn K cd14 "crowds_one_longer" = true) (k14 : PySem.W.keepIn K (.ref f14) = true)
    (a15 : PySem.W.nsIn K mainGlobals "sign_of" = some (some (.ref f15))) (l15 : K.lookup f15 = some ⟨oc15, od15, .func (PySem.W.fnOf "sign_of" "sign_of" (defArgs sSign) (defBody sSign) (defScope sSign) .none kV15 dc15 pm15 an15 cd15 ct15), sl15⟩) (c15 : PySem.W.codeIn K cd15 "sign_of" = true) (k15 : PySem.W.keepIn K (.ref f15) = true)
    (a16 : PySem.W.nsIn K mainGlobals "crowds" = some (some (.ref f16))) (l16 : K.lookup f16 = some ⟨oc16, od16, .func (PySem.W.fnOf "crowds" "crowds" (defArgs sCrowds) (defBody sCrowds) (defScope sCrowds) .none kV16 dc16 pm16 an16 cd16 ct16), sl16⟩) (c16 : PySem.W.codeIn K cd16 "crowds" = true) (k16 : PySem.W.keepIn K (.ref f16) = true)
    (a17 : PySem.W.nsIn K mainGlobals "heaps" = some (some (.ref f17))) (l17 : K.lookup f17 = some ⟨oc17, od17, .func (PySem.W.fnOf "heaps" "heaps" (defArgs sHeaps) (defBody sHeaps) (defScope sHeaps) .none kV17 dc17 pm17 an17 cd17 ct17), sl17⟩) (c17 : PySem.W.codeIn K cd17 "heaps" = true) (k17 : PySem.W.keepIn K (.ref f17) = true)
    (a18 : PySem.W.nsIn K mainGlobals "law" = some (some (.ref f18))) (l18 : K.lookup f18 = some ⟨oc18, od18, .func (PySem.W.fnOf "law" "law" (defArgs sLaw) (defBody sLaw) (defScope sLaw) .none kV18 dc18 pm18 an18 cd18 ct18), sl18⟩) (c18 : PySem.W.codeIn K cd18 "law" = true) (k18 : PySem.W.keepIn K (.ref f18) = true)
    (z0 : PySem.W.nsIn K mainGlobals "len" = some none)
    (z1 : PySem.W.nsIn K mainGlobals "list" = some none)
    (z2 : PySem.W.nsIn K mainGlobals "range" = some none)
    (z3 : PySem.W.nsIn K mainGlobals "sorted" = some none)
    (z4 : PySem.W.nsIn K mainGlobals "enumerate" = some none)
    (z5 : PySem.W.nsIn K mainGlobals "tuple" = some none)
    (z6 : PySem.W.nsIn K mainGlobals "max" = some none)
    (z7 : PySem.W.nsIn K mainGlobals "min" = some none)
    (z8 : PySem.W.nsIn K mainGlobals "bool" = some none)
    (z9 : PySem.W.nsIn K mainGlobals "int" = some none)
    (z10 : PySem.W.nsIn K mainGlobals "isinstance" = some none)
    (z11 : PySem.W.nsIn K mainGlobals "set" = some none)
    (z12 : PySem.W.nsIn K mainGlobals "sum" = some none)
    (kib : PySem.W.kitOne K (.type "int") (.type "bool") = some false)
    : ∃ fd : FuncData, (∀ (s : Shared) (v : Value), BindsTo s fd ⟨[v], []⟩ [("_law_script", v)]) ∧ ∀ base : Heap, K.In base → base.Ns mainGlobals mg → FnOk l.prog w K mg base CX0 8 fa fd ["_law_script"] (spLaw K) := by
  have e := hfa.symm.trans (PySem.W.mg_of X G a18)
  cases e
  have F0 := fun_mk (st := sCell) l0 c0 k0
  have F1 := fun_mk (st := sMix) l1 c1 k1
  have F2 := fun_mk (st := sLetters) l2 c2 k2
  have F3 := fun_mk (st := sGround) l3 c3 k3
  have F4 := fun_mk (st := sLTied) l4 c4 k4
  have F5 := fun_mk (st := sWhole) l5 c5 k5
  have F6 := fun_mk (st := sAllW) l6 c6 k6
  have F7 := fun_mk (st := sLCrowds) l7 c7 k7
  have F8 := fun_mk (st := sIsTied) l8 c8 k8
  have F9 := fun_mk (st := sAnyTied) l9 c9 k9
  have F10 := fun_mk (st := sIsFirst) l10 c10 k10
  have F11 := fun_mk (st := sWithout) l11 c11 k11
  have F12 := fun_mk (st := sFirsts) l12 c12 k12
  have F13 := fun_mk (st := sPlain) l13 c13 k13
  have F14 := fun_mk (st := sLonger) l14 c14 k14
  have F15 := fun_mk (st := sSign) l15 c15 k15
  have F16 := fun_mk (st := sCrowds) l16 c16 k16
  have F17 := fun_mk (st := sHeaps) l17 c17 k17
  have F18 := fun_mk (st := sLaw) l18 c18 k18
  have b0 := F0.binds (ps := ["_law_script", "_law_k"]) fun _ _ _ _ _ _ us hl => match us, hl with | [_, _], _ => rfl
  have m0 := PySem.W.mg_of X G a0
  have b1 := F1.binds (ps := ["_law_cell_here", "_law_prime", "_law_many"]) fun _ _ _ _ _ _ us hl => match us, hl with | [_, _, _], _ => rfl
  have m1 := PySem.W.mg_of X G a1
  have b2 := F2.binds (ps := ["_law_script"]) fun _ _ _ _ _ _ us hl => match us, hl with | [_], _ => rfl
  have m2 := PySem.W.mg_of X G a2
  have b3 := F3.binds (ps := ["_law_script"]) fun _ _ _ _ _ _ us hl => match us, hl with | [_], _ => rfl
  have m3 := PySem.W.mg_of X G a3
  have b4 := F4.binds (ps := ["_law_ground_here", "_law_one", "_law_other"]) fun _ _ _ _ _ _ us hl => match us, hl with | [_, _, _], _ => rfl
  have m4 := PySem.W.mg_of X G a4
  have b5 := F5.binds (ps := ["_law_found"]) fun _ _ _ _ _ _ us hl => match us, hl with | [_], _ => rfl
  have m5 := PySem.W.mg_of X G a5
  have b6 := F6.binds (ps := ["_law_letters_here", "_law_size"]) fun _ _ _ _ _ _ us hl => match us, hl with | [_, _], _ => rfl
  have m6 := PySem.W.mg_of X G a6
  have b7 := F7.binds (ps := ["_law_ground_here"]) fun _ _ _ _ _ _ us hl => match us, hl with | [_], _ => rfl
  have m7 := PySem.W.mg_of X G a7
  have b8 := F8.binds (ps := ["ground", "one", "other"]) fun _ _ _ _ _ _ us hl => match us, hl with | [_, _, _], _ => rfl
  have m8 := PySem.W.mg_of X G a8
  have b9 := F9.binds (ps := ["ground", "letters", "others"]) fun _ _ _ _ _ _ us hl => match us, hl with | [_, _, _], _ => rfl
  have m9 := PySem.W.mg_of X G a9
  have b10 := F10.binds (ps := ["ground", "word", "letter"]) fun _ _ _ _ _ _ us hl => match us, hl with | [_, _, _], _ => rfl
  have m10 := PySem.W.mg_of X G a10
  have b11 := F11.binds (ps := ["word", "letter"]) fun _ _ _ _ _ _ us hl => match us, hl with | [_, _], _ => rfl
  have m11 := PySem.W.mg_of X G a11
  have b12 := F12.binds (ps := ["ground", "word"]) fun _ _ _ _ _ _ us hl => match us, hl with | [_, _], _ => rfl
  have m12 := PySem.W.mg_of X G a12
  have b13 := F13.binds (ps := ["ground", "word"]) fun _ _ _ _ _ _ us hl => match us, hl with | [_, _], _ => rfl
  have m13 := PySem.W.mg_of X G a13
  have b14 := F14.binds (ps := ["ground", "shorter"]) fun _ _ _ _ _ _ us hl => match us, hl with | [_, _], _ => rfl
  have m14 := PySem.W.mg_of X G a14
  have b15 := F15.binds (ps := ["size"]) fun _ _ _ _ _ _ us hl => match us, hl with | [_], _ => rfl
  have m15 := PySem.W.mg_of X G a15
  have b16 := F16.binds (ps := ["ground"]) fun _ _ _ _ _ _ us hl => match us, hl with | [_], _ => rfl
  have m16 := PySem.W.mg_of X G a16
  have b17 := F17.binds (ps := ["ground", "length"]) fun _ _ _ _ _ _ us hl => match us, hl with | [_, _], _ => rfl
  have m17 := PySem.W.mg_of X G a17
  have n0 := PySem.W.mg_none_of X G z0
  have n1 := PySem.W.mg_none_of X G z1
  have n2 := PySem.W.mg_none_of X G z2
  have n3 := PySem.W.mg_none_of X G z3
  have n4 := PySem.W.mg_none_of X G z4
  have n5 := PySem.W.mg_none_of X G z5
  have n6 := PySem.W.mg_none_of X G z6
  have n7 := PySem.W.mg_none_of X G z7
  have n8 := PySem.W.mg_none_of X G z8
  have n9 := PySem.W.mg_none_of X G z9
  have n10 := PySem.W.mg_none_of X G z10
  have n11 := PySem.W.mg_none_of X G z11
  have n12 := PySem.W.mg_none_of X G z12
  refine ⟨PySem.W.fnOf "law" "law" (defArgs sLaw) (defBody sLaw) (defScope sLaw) .none kV18 dc18 pm18 an18 cd18 ct18, fun s v => .of_eq rfl, fun base kb gb => ?_⟩
  have G0 : FnOk l.prog w K mg base CX0 1 f0 _ ["_law_script", "_law_k"] (spCell K) := ok_Cell F0  n0  
  have G1 : FnOk l.prog w K mg base CX0 1 f1 _ ["_law_cell_here", "_law_prime", "_law_many"] spMix := ok_Mix F1    
  have G2 : FnOk l.prog w K mg base CX0 2 f2 _ ["_law_script"] (spLetters K) := ok_Letters F2 G0 b0 k0 m0 G1 b1 k1 m1 n0 n1 n2 n3  
  have G3 : FnOk l.prog w K mg base CX0 3 f3 _ ["_law_script"] (spGround K) := ok_Ground F3 G2 b2 k2 m2 G0 b0 k0 m0 G1 b1 k1 m1 n4 n5  
  have G4 : FnOk l.prog w K mg base CX0 1 f4 _ ["_law_ground_here", "_law_one", "_law_other"] spTied := ok_LTied F4  n6 n7  
  have G5 : FnOk l.prog w K mg base CX0 1 f5 _ ["_law_found"] spWhole := ok_Whole F5  n8 n9 n10  kib
  have G6 : FnOk l.prog w K mg base CX0 1 f6 _ ["_law_letters_here", "_law_size"] spAllW := ok_AllW F6  n2  
  have G7 : FnOk l.prog w K mg base CX0 2 f7 _ ["_law_ground_here"] spCrowds := ok_LCrowds F7 G4 b4 k4 m4 n4 n0 n2 n3 n5  
  have G8 : FnOk l.prog w K mg base CX0 1 f8 _ ["ground", "one", "other"] spTied := ok_IsTied F8    
  have G9 : FnOk l.prog w K mg base CX0 2 f9 _ ["ground", "letters", "others"] spAny := ok_AnyTied F9 G8 b8 k8 m8   
  have G10 : FnOk l.prog w K mg base CX0 3 f10 _ ["ground", "word", "letter"] spIsFirst := ok_IsFirst F10 G9 b9 k9 m9   
  have G11 : FnOk l.prog w K mg base CX0 1 f11 _ ["word", "letter"] spWithout := ok_Without F11    
  have G12 : FnOk l.prog w K mg base CX0 4 f12 _ ["ground", "word"] spFirsts := ok_Firsts F12 G10 b10 k10 m10 n11 n3  
  have G13 : FnOk l.prog w K mg base CX0 5 f13 _ ["ground", "word"] spPlain := ok_Plain F13 G12 b12 k12 m12 G11 b11 k11 m11   
  have G14 : FnOk l.prog w K mg base CX0 3 f14 _ ["ground", "shorter"] spLonger := ok_Longer F14 G9 b9 k9 m9   
  have G15 : FnOk l.prog w K mg base CX0 1 f15 _ ["size"] spSign := ok_Sign F15    
  have G16 : FnOk l.prog w K mg base CX0 4 f16 _ ["ground"] spCrowds := ok_Crowds F16 G14 b14 k14 m14 n1 n5  
  have G17 : FnOk l.prog w K mg base CX0 5 f17 _ ["ground", "length"] spHeaps := ok_Heaps F17 G16 b16 k16 m16 G15 b15 k15 m15 n0 n2 n12  
  exact ok_Law F18 G3 b3 k3 m3 G16 b16 k16 m16 G17 b17 k17 m17 G7 b7 k7 m7 G6 b6 k6 m6 G13 b13 k13 m13 G5 b5 k5 m5 G0 b0 k0 m0 n9 n10 n0 n2 n5  
theorem walk {l : PySem.W.OpenLaw} {q : Program} {loose : List Str} {XP : (Str → Option Value) → Heap → Prop} {YP : World → Heap → Prop} {d : DefRec} {K : Params → PySem.W.Frag} (hn : l.most = some 63) (hdf : d.params.defaults = [])
    (hY : ∀ (w : World) (h : Heap), YP w h → (K w.params).In h)
    (F : ∀ (w : World) (mg : Str → Option Value) (fa : Addr) (h : Heap), (K w.params).In h → h.Ns mainGlobals mg → mg d.name = some (.ref fa) →
      ∃ fd : FuncData, (∀ (s : Shared) (u : Value), BindsTo s fd ⟨[u], []⟩ [("_law_script", u)]) ∧ ∀ base : Heap, (K w.params).In base → base.Ns mainGlobals mg → FnOk l.prog w (K w.params) mg base CX0 8 fa fd ["_law_script"] (spLaw (K w.params))) :
    PySem.W.WalkO q loose XP YP l.row.toRowW d [] (fun f vs => PySem.call f vs) :=
  L2.walk_of (n := 63) (k := 8) (x := "_law_script") (CX := fun _ => CX0) (sp := fun w => spLaw (K w.params)) hn (by decide) hdf ⟨rfl, by decide, by decide⟩ hY F (fun _ _ a ns hl _ hS => ⟨a, ns, rfl, hS, hl, fun _ => rfl⟩) fun _ _ _ _ _ z => z
end K12
open PySem PySem.W PyProof.Rows
set_option maxRecDepth 100000 in
set_option maxHeartbeats 0 in
theorem PySem.Challenge.cw_heapwords_k12_whole_heaps_of_a_length_holds : PySem.Challenge.rw_heapwords_k12_whole_heaps_of_a_length.Holds := by
  w_on; o_law; k_head; (case hw => w_witness2)
  k_fill
  refine K12.walk (l := PySem.Challenge.rw_heapwords_k12_whole_heaps_of_a_length) rfl rfl (fun w h Y => PySem.W.kIn_of Y) ?F
  case F =>
    intro w mg fa h KX G hmg
    refine' K12.all_mk KX G hmg ?a0 ?l0 ?c0 ?k0 ?a1 ?l1 ?c1 ?k1 ?a2 ?l2 ?c2 ?k2 ?a3 ?l3 ?c3 ?k3 ?a4 ?l4 ?c4 ?k4 ?a5 ?l5 ?c5 ?k5 ?a6 ?l6 ?c6 ?k6 ?a7 ?l7 ?c7 ?k7 ?a8 ?l8 ?c8 ?k8 ?a9 ?l9 ?c9 ?k9 ?a10 ?l10 ?c10 ?k10 ?a11 ?l11 ?c11 ?k11 ?a12 ?l12 ?c12 ?k12 ?a13 ?l13 ?c13 ?k13 ?a14 ?l14 ?c14 ?k14 ?a15 ?l15 ?c15 ?k15 ?a16 ?l16 ?c16 ?k16 ?a17 ?l17 ?c17 ?k17 ?a18 ?l18 ?c18 ?k18 ?z0 ?z1 ?z2 ?z3 ?z4 ?z5 ?z6 ?z7 ?z8 ?z9 ?z10 ?z11 ?z12   ?kib
    (case a0 => k_is); (case l0 => k_is); (case c0 => k_is); (case k0 => k_is)
    (case a1 => k_is); (case l1 => k_is); (case c1 => k_is); (case k1 => k_is)
    (case a2 => k_is); (case l2 => k_is); (case c2 => k_is); (case k2 => k_is)
    (case a3 => k_is); (case l3 => k_is); (case c3 => k_is); (case k3 => k_is)
    (case a4 => k_is); (case l4 => k_is); (case c4 => k_is); (case k4 => k_is)
    (case a5 => k_is); (case l5 => k_is); (case c5 => k_is); (case k5 => k_is)
    (case a6 => k_is); (case l6 => k_is); (case c6 => k_is); (case k6 => k_is)
    (case a7 => k_is); (case l7 => k_is); (case c7 => k_is); (case k7 => k_is)
    (case a8 => k_is); (case l8 => k_is); (case c8 => k_is); (case k8 => k_is)
    (case a9 => k_is); (case l9 => k_is); (case c9 => k_is); (case k9 => k_is)
    (case a10 => k_is); (case l10 => k_is); (case c10 => k_is); (case k10 => k_is)
    (case a11 => k_is); (case l11 => k_is); (case c11 => k_is); (case k11 => k_is)
    (case a12 => k_is); (case l12 => k_is); (case c12 => k_is); (case k12 => k_is)
    (case a13 => k_is); (case l13 => k_is); (case c13 => k_is); (case k13 => k_is)
    (case a14 => k_is); (case l14 => k_is); (case c14 => k_is); (case k14 => k_is)
    (case a15 => k_is); (case l15 => k_is); (case c15 => k_is); (case k15 => k_is)
    (case a16 => k_is); (case l16 => k_is); (case c16 => k_is); (case k16 => k_is)
    (case a17 => k_is); (case l17 => k_is); (case c17 => k_is); (case k17 => k_is)
    (case a18 => k_is); (case l18 => k_is); (case c18 => k_is); (case k18 => k_is)
    (case z0 => k_is); (case z1 => k_is); (case z2 => k_is); (case z3 => k_is); (case z4 => k_is); (case z5 => k_is); (case z6 => k_is); (case z7 => k_is); (case z8 => k_is); (case z9 => k_is); (case z10 => k_is); (case z11 => k_is); (case z12 => k_is)
    (case kib => first | k_is | rfl | decide +kernel)
