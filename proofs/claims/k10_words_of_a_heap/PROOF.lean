import PyProof.Rows.All
import Wide.All
import OpenK.AllK
import Wide.FinOn
import Lean
import PyProof.EqAt
import PyProof.EqKinds
import PyProof.TupleCall
import PySem.Challenge.RW_heapwords_k10_words_of_a_heap
set_option Elab.async false
set_option linter.all false
set_option maxRecDepth 100000
namespace L2
open PySem PySem.Spec PyProof.Rows
abbrev Key := Sum Int Str
def keyIs : Key → Value → Bool
  | .inl k, v => Value.isInt k v
  | .inr x, v => Value.isStrOf x v
def keyH (w : World) : Key → Int
  | .inl k => hashInt k
  | .inr x => hashStr w x
theorem keyIs_shape : ∀ {k : Key} {v : Value}, keyIs k v = true → (∃ i t, k = Sum.inl i ∧ v = Value.int i t) ∨ (∃ x t, k = Sum.inr x ∧ v = Value.str x t)
  | .inl i, v, h => by
    obtain ⟨t, e⟩ := Value.isInt_shape (k := i) (v := v) h
    exact .inl ⟨i, t, rfl, e⟩
  | .inr x, v, h => by
    obtain ⟨t, e⟩ := Value.isStrOf_shape (x := x) (v := v) h
    exact .inr ⟨x, t, rfl, e⟩
theorem keyIs_int (i : Int) (t : Tok) : keyIs (.inl i) (.int i t) = true := by simp [keyIs, Value.isInt]
theorem keyIs_str (x : Str) (t : Tok) : keyIs (.inr x) (.str x t) = true := by simp [keyIs, Value.isStrOf]
theorem key_ll (a b : Int) : decide ((Sum.inl a : Key) = Sum.inl b) = (a == b) := by
  by_cases e : a = b
  · subst e; simp
  · have h : ¬ (Sum.inl a : Key) = Sum.inl b := fun q => e (Sum.inl.inj q)
    rw [decide_eq_false h]
    exact (beq_eq_false_iff_ne.mpr e).symm
theorem key_rr (a b : Str) : decide ((Sum.inr a : Key) = Sum.inr b) = decide (a = b) := by
  by_cases e : a = b
  · subst e; simp
  · have h : ¬ (Sum.inr a : Key) = Sum.inr b := fun q => e (Sum.inr.inj q)
    rw [decide_eq_false h, decide_eq_false e]
theorem key_lr (a : Int) (b : Str) : decide ((Sum.inl a : Key) = Sum.inr b) = false := decide_eq_false (fun q => nomatch q)
theorem key_rl (a : Str) (b : Int) : decide ((Sum.inr a : Key) = Sum.inl b) = false := decide_eq_false (fun q => nomatch q)
def mixKind (prog : Program) (w : World) : PySem.KeyKind prog w Key where
  is := keyIs
  hash := keyH w
  inj := fun v a b ha hb => by
    rcases keyIs_shape ha with ⟨i, t, rfl, rfl⟩ | ⟨x, t, rfl, rfl⟩
    · rcases keyIs_shape hb with ⟨j, u, rfl, e⟩ | ⟨y, u, rfl, e⟩
      · injection e with e1 _; rw [e1]
      · exact nomatch e
    · rcases keyIs_shape hb with ⟨j, u, rfl, e⟩ | ⟨y, u, rfl, e⟩
      · exact nomatch e
      · injection e with e1 _; rw [e1]
  byValue := fun k v h => by
    rcases keyIs_shape h with ⟨i, t, rfl, rfl⟩ | ⟨x, t, rfl, rfl⟩ <;> rfl
  pyHash := fun hv h => by
    rcases keyIs_shape hv with ⟨i, t, rfl, rfl⟩ | ⟨x, t, rfl, rfl⟩
    · exact wpAny_pyHash_int h
    · exact wpAny_pyHash_str h
  eqBool := fun hu hv h => by
    rcases keyIs_shape hu with ⟨i, t, rfl, rfl⟩ | ⟨x, t, rfl, rfl⟩
    · rcases keyIs_shape hv with ⟨j, u, rfl, rfl⟩ | ⟨y, u, rfl, rfl⟩
      · rw [key_ll] at h; exact wpAny_eqBool_int h
      · rw [key_lr] at h; exact SeqAt.EqAt.int_str i t y u _ _ _ _ h
    · rcases keyIs_shape hv with ⟨j, u, rfl, rfl⟩ | ⟨y, u, rfl, rfl⟩
      · rw [key_rl] at h; exact SeqAt.EqAt.str_int x t j u _ _ _ _ h
      · rw [key_rr] at h; exact wpAny_eqBool_str h
  «strs» := fun k x t v h => by
    rcases keyIs_shape h with ⟨i, u, rfl, e⟩ | ⟨y, u, rfl, e⟩
    · exact nomatch e
    · injection e with e1 _
      subst e1
      cases v <;> rfl
theorem mixKind_int (prog : Program) (w : World) (i : Int) (t : Tok) : (mixKind prog w).is (.inl i) (.int i t) = true := keyIs_int i t
theorem mixKind_str (prog : Program) (w : World) (x : Str) (t : Tok) : (mixKind prog w).is (.inr x) (.str x t) = true := keyIs_str x t
end L2
namespace L2
open PySem PySem.Spec PyProof.Rows
inductive V where
  | non | bl (b : Bool) | int (i : Int) | str (x : Str) | byt (b : Array UInt8) | flt (b : UInt64) | ref (a : Addr) | ty (n : String) | old (x : Str) (a n : Nat)
  deriving DecidableEq
def RelV : V → Value → Prop
  | .non, u => u = Value.none
  | .bl b, u => u = Value.bool b
  | .int i, u => ∃ t, u = Value.int i t
  | .str x, u => ∃ t, u = Value.str x t
  | .byt b, u => ∃ t, u = Value.bytes b t
  | .flt b, u => ∃ t, u = Value.float b t
  | .ref a, u => u = Value.ref a
  | .ty n, u => u = Value.type n
  | .old x a n, u => ∃ t, u = Value.str x t ∧ a ≤ t ∧ t < n
abbrev Vals : List V → List Value → Prop := Paired RelV
theorem Vals.length {xs : List V} {us : List Value} (r : Vals xs us) : xs.length = us.length := Paired.length r
theorem Vals.get : ∀ {xs : List V} {us : List Value} {i : Nat} {x : V}, Vals xs us → xs[i]? = some x → ∃ u, us[i]? = some u ∧ RelV x u
  | _, _, _, _, .nil, e => by simp at e
  | _, _, 0, _, .cons r _, e => by simp at e; subst e; exact ⟨_, rfl, r⟩
  | _, _, i + 1, x, .cons _ t, e => by
    obtain ⟨u, h1, h2⟩ := Vals.get (i := i) (x := x) t (by simpa using e)
    exact ⟨u, by simpa using h1, h2⟩
theorem Vals.set {x : V} {u : Value} (r : RelV x u) : ∀ {xs : List V} {us : List Value} (i : Nat), Vals xs us → Vals (xs.set i x) (us.set i u)
  | _, _, _, .nil => .nil
  | _, _, 0, .cons _ t => .cons r t
  | _, _, i + 1, .cons q t => .cons q (Vals.set r i t)
theorem Vals.append : ∀ {xs ys : List V} {us ws : List Value}, Vals xs us → Vals ys ws → Vals (xs ++ ys) (us ++ ws)
  | _, _, _, _, .nil, s => s
  | _, _, _, _, .cons r t, s => .cons r (Vals.append t s)
theorem Vals.take : ∀ {xs : List V} {us : List Value} (n : Nat), Vals xs us → Vals (xs.take n) (us.take n)
  | _, _, 0, _ => .nil
  | _, _, _ + 1, .nil => .nil
  | _, _, n + 1, .cons r t => .cons r (Vals.take n t)
theorem Vals.drop : ∀ {xs : List V} {us : List Value} (n : Nat), Vals xs us → Vals (xs.drop n) (us.drop n)
  | _, _, 0, r => r
  | _, _, _ + 1, .nil => .nil
  | _, _, n + 1, .cons _ t => Vals.drop n t
def RelO : Option V → Option Value → Prop
  | some v, some u => RelV v u
  | none, none => True
  | _, _ => False
def KV {κ : Type} : List (κ × V) → List (κ × Value) → Prop := Paired fun (p : κ × V) (q : κ × Value) => p.1 = q.1 ∧ RelV p.2 q.2
def kV : Key → V
  | .inl i => .int i
  | .inr x => .str x
inductive HO where
  | lst (xs : List V)
  | tup (xs : List V)
  | dK (kvs : List (Key × V)) | dT (kvs : List (List Key × V))
  | set (S : Int → Bool) (n : Nat)
  | ins (C dx : Addr) (fs : List (Str × V))
  | own (x : Addr)
  | xd (fs : List (Str × V))
  | met (f x : Addr)
  | rng (lo hi : Int)
  | frz (o : Obj) (u : HO)
  | tbl (ps : Array Value)
  | ext (φ : Heap → Prop)
structure Hp where
  fn : Addr → Option HO
  clk : Nat
instance : CoeFun Hp (fun _ => Addr → Option HO) := ⟨Hp.fn⟩
def upd (H : Hp) (a : Addr) (o : HO) : Hp := ⟨fun b => if b = a then some o else H b, H.clk⟩
theorem upd_fn {H : Hp} {a b : Addr} {o : HO} : upd H a o b = if b = a then some o else H b := rfl
def Bar (H : Hp) (g : Array GenState) (t : Nat) : Prop := AllBare g ∧ H.clk ≤ t
theorem upd_same {H : Hp} {a : Addr} {o : HO} : upd H a o a = some o := by rw [upd_fn, if_pos rfl]
theorem upd_ne {H : Hp} {a b : Addr} {o : HO} (h : b ≠ a) : upd H a o b = H b := by rw [upd_fn, if_neg h]
theorem ne_of {H : Hp} {a b : Addr} {o u : HO} (h : H a = some o) (h' : H b = some u) (d : o ≠ u) : a ≠ b := by
  intro e; subst e; rw [h] at h'; exact d (Option.some.inj h')
theorem ne_of_none {H : Hp} {a b : Addr} {o : HO} (h : H a = some o) (h' : H b = none) : a ≠ b := by
  intro e; subst e; rw [h] at h'; cases h'
section
variable (P : Program) (w : World)
def ObjOk (H : Hp) (h : Heap) (a : Addr) : HO → Prop
  | .lst xs => xs.length ≤ sizeLine ∧ ∃ (its : List Value) (n : Nat), Vals xs its ∧ h.get? a = some { cls := .type "list", data := .seq its.toArray n }
  | .tup xs => xs.length ≤ sizeLine ∧ ∃ its : List Value, Vals xs its ∧ IsTup h a its.toArray
  | .dK kvs => kvs.length ≤ sizeLine ∧ (a == sysModules) = false ∧ ∃ vs, KV kvs vs ∧ h.DictOf (mixKind P w) a vs
  | .dT kvs => kvs.length ≤ sizeLine ∧ (a == sysModules) = false ∧ ∃ xs : List (List Key × Addr × Value),
      Paired (fun (p : List Key × V) (q : List Key × Addr × Value) => p.1 = q.1 ∧ H q.2.1 = some (.tup (p.1.map kV)) ∧ RelV p.2 q.2.2) kvs xs ∧
      ∃ o es ep, h.get? a = some o ∧ o.ExactDict ∧ o.data = .dict es ep ∧ es.toList = xs.map (entryOfKey (tupleKind (mixKind P w))) ∧ (xs.map (·.1)).Nodup
  | .set S n => h.SetOf (intKind P w) a S n
  | .ins C dx fs => H dx = some (.own a) ∧ fs.length ≤ 1000 ∧ dx ≠ a ∧ h.get? a = some (PySem.W.instObj C dx) ∧
      ∃ mA, h.Ns1 dx mA ∧ (∀ f, RelO (fs.lookup f) (mA f)) ∧ PySem.Within mA (fs.map (·.1))
  | .own _ => ∃ o, h.get? a = some o
  | .xd fs => ∃ mA, h.Ns1 a mA ∧ ∀ f, RelO (fs.lookup f) (mA f)
  | .rng lo hi => ∃ t u v, h.get? a = some { cls := .type "range", data := .fields #[.int lo t, .int hi u, .int 1 v] }
  | .frz o u => h.get? a = some o ∧ ObjOk H h a u
  | .tbl ps => h.get? a = some { cls := .none, data := .fields ps }
  | .met f x => h.get? a = some (PySem.W.methodObj (.ref f) (.ref x))
  | .ext φ => φ h ∧ (∃ o, h.get? a = some o) ∧ ∀ h1 h2 : Heap, φ h1 → (∀ o, h1.get? a = some o → h2.get? a = some o) → φ h2
def HOk (H : Hp) (h : Heap) : Prop := ∀ a o, H a = some o → ObjOk P w H h a o
end
section
variable {P : Program} {w : World} {H H' : Hp} {h h' : Heap} {a : Addr} {o : HO}
theorem ObjOk.lt (x : ObjOk P w H h a o) : a < h.objs.size := by
  cases o with
  | lst xs => obtain ⟨_, _, _, _, e⟩ := x; exact Heap.lt_size e
  | tup xs => obtain ⟨_, _, _, p⟩ := x; exact p.lt
  | dK kvs => obtain ⟨_, _, _, _, o, _, _, e, _⟩ := x; exact Heap.lt_size e
  | dT kvs => obtain ⟨_, _, _, _, o, _, _, e, _⟩ := x; exact Heap.lt_size e
  | set S n => obtain ⟨o, _, _, _, e, _⟩ := x; exact Heap.lt_size e
  | ins C dx fs => obtain ⟨_, _, _, e, _⟩ := x; exact Heap.lt_size e
  | own y => obtain ⟨_, e⟩ := x; exact Heap.lt_size e
  | xd fs => obtain ⟨_, ⟨_, _, _, e, _⟩, _⟩ := x; exact Heap.lt_size e
  | rng lo hi => obtain ⟨_, _, _, e⟩ := x; exact Heap.lt_size e
  | frz ob u => obtain ⟨e, _⟩ := x; exact Heap.lt_size e
  | tbl ps => exact Heap.lt_size (show h.get? a = some _ from x)
  | met f y => exact Heap.lt_size (show h.get? a = some _ from x)
  | ext φ => obtain ⟨_, ⟨_, e⟩, _⟩ := x; exact Heap.lt_size e
theorem Paired.mapP {α β : Type} {F G : α → β → Prop} : ∀ {l₁ : List α} {l₂ : List β}, Paired F l₁ l₂ → (∀ a b, F a b → G a b) → Paired G l₁ l₂
  | _, _, .nil, _ => .nil
  | _, _, .cons r t, f => .cons (f _ _ r) (Paired.mapP t f)
theorem ObjOk.stay (x : ObjOk P w H h a o) (k : ∀ b u, (b = a ∨ H b = some (.own a)) → h.get? b = some u → h'.get? b = some u)
    (ho : ∀ b, H b = some (.own a) → H' b = some (.own a)) (ht : ∀ b xs, H b = some (.tup xs) → H' b = some (.tup xs)) : ObjOk P w H' h' a o := by
  induction o with
  | lst xs => obtain ⟨z, its, n, r, e⟩ := x; exact ⟨z, its, n, r, k _ _ (.inl rfl) e⟩
  | tup xs => obtain ⟨z, its, r, ob, e, c⟩ := x; exact ⟨z, its, r, ob, k _ _ (.inl rfl) e, c⟩
  | dK kvs => obtain ⟨z, y, vs, r, ob, es, ep, e, c⟩ := x; exact ⟨z, y, vs, r, ob, es, ep, k _ _ (.inl rfl) e, c⟩
  | dT kvs =>
    obtain ⟨z, y, xs, r, ob, es, ep, e, c⟩ := x
    exact ⟨z, y, xs, Paired.mapP r fun p q z => ⟨z.1, ht _ _ z.2.1, z.2.2⟩, ob, es, ep, k _ _ (.inl rfl) e, c⟩
  | set S n => obtain ⟨ob, es, ep, t, e, c⟩ := x; exact ⟨ob, es, ep, t, k _ _ (.inl rfl) e, c⟩
  | ins C dx fs =>
    obtain ⟨d, z, ne, e, mA, ⟨od, es, ep, e2, c⟩, r⟩ := x
    exact ⟨ho _ d, z, ne, k _ _ (.inl rfl) e, mA, ⟨od, es, ep, k _ _ (.inr d) e2, c⟩, r⟩
  | own y => obtain ⟨ob, e⟩ := x; exact ⟨ob, k _ _ (.inl rfl) e⟩
  | xd fs => obtain ⟨mA, ⟨od, es, ep, e, c⟩, r⟩ := x; exact ⟨mA, ⟨od, es, ep, k _ _ (.inl rfl) e, c⟩, r⟩
  | rng lo hi => obtain ⟨t, u, v, e⟩ := x; exact ⟨t, u, v, k _ _ (.inl rfl) e⟩
  | frz ob u ih => obtain ⟨e, q⟩ := x; exact ⟨k _ _ (.inl rfl) e, ih q⟩
  | tbl ps =>
    have e : h.get? a = some { cls := .none, data := .fields ps } := x
    show h'.get? a = some { cls := .none, data := .fields ps }
    exact k a _ (.inl rfl) e
  | met f y =>
    have e : h.get? a = some (PySem.W.methodObj (.ref f) (.ref y)) := x
    show h'.get? a = some (PySem.W.methodObj (.ref f) (.ref y))
    exact k a _ (.inl rfl) e
  | ext φ => obtain ⟨p, ⟨o, e⟩, st⟩ := x; exact ⟨st _ _ p fun o q => k _ _ (.inl rfl) q, ⟨o, k _ _ (.inl rfl) e⟩, st⟩
theorem HOk.lt (x : HOk P w H h) (e : H a = some o) : a < h.objs.size := (x a o e).lt
theorem HOk.fresh (x : HOk P w H h) (e : h.objs.size ≤ a) : H a = none := by
  cases q : H a with
  | none => rfl
  | some u => exact absurd (Nat.lt_of_lt_of_le (x.lt q) e) (Nat.lt_irrefl _)
theorem HOk.kept (x : HOk P w H h) (k : ∀ b u, h.get? b = some u → h'.get? b = some u) : HOk P w H h' := fun a o e =>
  (x a o e).stay (fun b u _ q => k b u q) (fun _ q => q) fun _ _ q => q
theorem HOk.laid (x : HOk P w H h) (k : ∀ b u, h.get? b = some u → h'.get? b = some u) (hp : h.objs.size ≤ a) (new : ObjOk P w (upd H a o) h' a o) : HOk P w (upd H a o) h' := fun b u e => by
  have hn := x.fresh hp
  by_cases hb : b = a
  · subst hb; rw [upd_same] at e; cases e; exact new
  · rw [upd_ne hb] at e
    exact (x b u e).stay (fun c v _ q => k c v q) (fun c q => by rw [upd_ne (ne_of_none q hn)]; exact q) fun c xs q => by rw [upd_ne (ne_of_none q hn)]; exact q
end
def Rd (H : Hp) (a : Addr) (u : HO) : Prop := H a = some u ∨ ∃ o, H a = some (.frz o u)
theorem Rd.of {H : Hp} {a : Addr} {u : HO} (h : H a = some u) : Rd H a u := .inl h
theorem Rd.ok {P : Program} {w : World} {H : Hp} {h : Heap} {a : Addr} {u : HO} (r : Rd H a u) (x : HOk P w H h) : ObjOk P w H h a u := by
  rcases r with r | ⟨o, r⟩
  · exact x a u r
  · obtain ⟨_, q⟩ := x a _ r
    exact q
def Mut : Option HO → Prop
  | some (.lst _) => True
  | some (.dK _) => True
  | some (.dT _) => True
  | some (.set _ _) => True
  | some (.ins _ _ _) => True
  | some (.ext _) => True
  | _ => False
section
variable {P : Program} {w : World} {H : Hp} {h h' : Heap} {x e : Addr} {o' : HO}
theorem HOk.write (ok : HOk P w H h) (mu : Mut (H x)) (he : e = x ∨ H e = some (.own x)) (k : ∀ b u, b ≠ e → h.get? b = some u → h'.get? b = some u) (heo : ∃ u, h'.get? e = some u)
    (new : ObjOk P w (upd H x o') h' x o') : HOk P w (upd H x o') h' := fun b u q => by
  have nown : ∀ c y, H c = some (.own y) → c ≠ x := fun c y r z => by subst z; rw [r] at mu; exact mu
  have ntup : ∀ c xs, H c = some (.tup xs) → c ≠ x := fun c xs r z => by subst z; rw [r] at mu; exact mu
  by_cases hb : b = x
  · subst hb; rw [upd_same] at q; cases q; exact new
  · rw [upd_ne hb] at q
    by_cases hbe : b = e
    · have q' : H b = some (.own x) := by
        rcases he with z | z
        · exact absurd (hbe.trans z) hb
        · rw [hbe]; exact z
      rw [q] at q'; cases q'
      obtain ⟨v, hv⟩ := heo
      exact ⟨v, by rw [hbe]; exact hv⟩
    · refine (ok b u q).stay (fun c v hc r => k c v ?_ r) (fun c r => by rw [upd_ne (nown c b r)]; exact r) fun c xs r => by rw [upd_ne (ntup c xs r)]; exact r
      rcases hc with rfl | hc
      · exact hbe
      · rintro rfl
        rcases he with z | z
        · exact nown c b hc z
        · rw [hc] at z; cases z; exact hb rfl
end
structure Un (fs ex : List Addr) (H H' : Hp) (h h' : Heap) : Prop where
  keep : ∀ b o, h.get? b = some o → H b = none → b ∉ fs → b ∉ ex → h'.get? b = some o
  slot : ∀ b o, h.get? b = some o → H b = none → b ∈ fs → b ∉ ex → ∃ sl, h'.get? b = some { o with slots := sl }
  free : ∀ b o, h.get? b = some o → H b = none → b ∉ ex → H' b = none
  there : ∀ b o, h.get? b = some o → b ∉ ex → ∃ o', h'.get? b = some o'
  tups : ∀ b xs, H b = some (.tup xs) → H' b = some (.tup xs)
  frzs : ∀ b o u, H b = some (.frz o u) → H' b = some (.frz o u)
  tbls : ∀ b ps, H b = some (.tbl ps) → ∃ more, H' b = some (.tbl (ps ++ more))
section
variable {fs fs' ex ex' : List Addr} {H H1 H2 : Hp} {h h1 h2 h' : Heap} {a x e : Addr} {o : HO}
theorem Un.any (u : Un fs ex H H1 h h1) {b : Addr} {ob : Obj} (q : h.get? b = some ob) (n : H b = none) (hx : b ∉ ex) : ∃ sl, h1.get? b = some { ob with slots := sl } := by
  by_cases hb : b ∈ fs
  · exact u.slot b ob q n hb hx
  · exact ⟨ob.slots, u.keep b ob q n hb hx⟩
theorem Un.trans (a : Un fs ex H H1 h h1) (b : Un fs ex H1 H2 h1 h2) : Un fs ex H H2 h h2 where
  keep := fun c ob q n hc hx => b.keep c ob (a.keep c ob q n hc hx) (a.free c ob q n hx) hc hx
  slot := fun c ob q n hc hx => by
    obtain ⟨sl, e1⟩ := a.slot c ob q n hc hx
    obtain ⟨sl', e2⟩ := b.slot c _ e1 (a.free c ob q n hx) hc hx
    exact ⟨sl', e2⟩
  free := fun c ob q n hx => by
    obtain ⟨o', e1⟩ := a.there c ob q hx
    exact b.free c o' e1 (a.free c ob q n hx) hx
  there := fun c ob q hx => by
    obtain ⟨o', e1⟩ := a.there c ob q hx
    exact b.there c o' e1 hx
  tups := fun c xs q => b.tups c xs (a.tups c xs q)
  frzs := fun c ob xs q => b.frzs c ob xs (a.frzs c ob xs q)
  tbls := fun c ps q => by
    obtain ⟨m1, e1⟩ := a.tbls c ps q
    obtain ⟨m2, e2⟩ := b.tbls c _ e1
    exact ⟨m1 ++ m2, by rw [e2, Array.append_assoc]⟩
theorem Un.kept (k : ∀ b u, h.get? b = some u → h'.get? b = some u) : Un fs ex H H h h' :=
  ⟨fun b ob q _ _ _ => k b ob q, fun b ob q _ _ _ => ⟨ob.slots, k b ob q⟩, fun _ _ _ n _ => n, fun b ob q _ => ⟨ob, k b ob q⟩, fun _ _ q => q, fun _ _ _ q => q, fun _ ps q => ⟨#[], by rw [q]; simp⟩⟩
theorem Un.refl : Un fs ex H H h h := Un.kept fun _ _ q => q
theorem Un.laid (k : ∀ b u, h.get? b = some u → h'.get? b = some u) (hp : h.objs.size ≤ a) (hn : H a = none) : Un fs ex H (upd H a o) h h' where
  keep := fun b u q _ _ _ => k b u q
  slot := fun b u q _ _ _ => ⟨u.slots, k b u q⟩
  free := fun b u q n _ => by rw [upd_ne (Nat.ne_of_lt (Nat.lt_of_lt_of_le (Heap.lt_size q) hp))]; exact n
  there := fun b u q _ => ⟨u, k b u q⟩
  tups := fun b xs q => by rw [upd_ne (ne_of_none q hn)]; exact q
  frzs := fun b u xs q => by rw [upd_ne (ne_of_none q hn)]; exact q
  tbls := fun b ps q => ⟨#[], by rw [upd_ne (ne_of_none q hn), q]; simp⟩
theorem Un.write (mu : Mut (H x)) (he : e = x ∨ H e = some (.own x)) (k : ∀ b u, b ≠ e → h.get? b = some u → h'.get? b = some u) (heo : ∃ u, h'.get? e = some u) : Un fs ex H (upd H x o) h h' := by
  have hx : ∀ b, H b = none → b ≠ x := fun b n z => by subst z; rw [n] at mu; exact mu
  have hb : ∀ b, H b = none → b ≠ e := fun b n z => by
    subst z
    rcases he with r | r
    · exact hx b n r
    · rw [n] at r; cases r
  have hm : ∀ b u, H b = some u → ¬ Mut (some u) → b ≠ x := fun b u q nm z => by subst z; rw [q] at mu; exact nm mu
  refine ⟨fun b u q n _ _ => k b u (hb b n) q, fun b u q n _ _ => ⟨u.slots, k b u (hb b n) q⟩, fun b u q n _ => by rw [upd_ne (hx b n)]; exact n, fun b u q _ => ?_,
    fun b xs q => by rw [upd_ne (hm b _ q fun z => z)]; exact q, fun b u xs q => by rw [upd_ne (hm b _ q fun z => z)]; exact q, fun b ps q => ⟨#[], by rw [upd_ne (hm b _ q fun z => z), q]; simp⟩⟩
  by_cases hbe : b = e
  · subst hbe; exact heo
  · exact ⟨u, k b u hbe q⟩
theorem Un.mono (u : Un fs ex H H1 h h1) (hs : ∀ b ∈ fs, b ∈ fs') (hx : ∀ b ∈ ex, b ∈ ex') : Un fs' ex' H H1 h h1 :=
  ⟨fun b ob q n hb he => u.keep b ob q n (fun z => hb (hs b z)) fun z => he (hx b z), fun _ _ q n _ he => u.any q n fun z => he (hx _ z), fun b ob q n he => u.free b ob q n fun z => he (hx b z), fun b ob q he => u.there b ob q fun z => he (hx b z), u.tups, u.frzs, u.tbls⟩
end
def trk (h : Heap) (H : Hp) : List Addr := (List.range h.objs.size).filter fun a => (H a).isSome
def hidT (h : Heap) (H : Hp) : Heap := PySem.W.hideAll h (trk h H)
theorem hidT_size (h : Heap) (H : Hp) : (hidT h H).objs.size = h.objs.size := PySem.W.hideAll_size _ _
theorem hidT_get {h : Heap} {H : Hp} {b : Addr} {o : Obj} (e : h.get? b = some o) (n : H b = none) : (hidT h H).get? b = some o :=
  PySem.W.hideAll_get _ e fun hm => by
    have q : (H b).isSome = true := (List.mem_filter.mp hm).2
    rw [n] at q; simp at q
theorem of_hidT {h : Heap} {H : Hp} {b : Addr} {o : Obj} (e : (hidT h H).get? b = some o) : h.get? b = some o ∧ H b = none := by
  have e' : h.get? b = some o := PySem.W.of_hideAll (trk h H) e
  refine ⟨e', ?_⟩
  cases q : H b with
  | none => rfl
  | some x =>
    have hm : b ∈ trk h H := List.mem_filter.mpr ⟨List.mem_range.mpr (Heap.lt_size e'), by simp [q]⟩
    have z : (hidT h H).get? b = none := PySem.W.hideAll_none (trk h H) hm
    rw [z] at e; cases e
def allNews (g h : Heap) (L : Addr) : List (Addr × Obj) := (List.range h.objs.size).filterMap fun a => if a = L ∨ (g.get? a).isSome = true then none else (h.get? a).map fun o => (a, o)
def rest (g h : Heap) (L d : Addr) : List (Addr × Obj) := (allNews g h L).filter fun p => decide (p.1 ≠ d)
end L2
namespace L2
open PySem PySem.Spec PyProof.Rows
structure Mod (K : PySem.W.Frag) (mg : Str → Option Value) (base : Heap) : Prop where
  kin : K.In base
  glob : base.Ns mainGlobals mg
  blt : ∃ mb, base.Ns builtinsNs mb ∧ ∀ x : Str, x ≠ "__name__" → mb x = bootBuiltins x
  nolimit : base.NoLimit
structure Cx where
  prog : Program
  w : World
  K : PySem.W.Frag
  mg : Str → Option Value
  base : Heap
  A : Around
  N : List Str
  s₀ : Shared
  H₀ : Hp
  env : Env
  outer : List Env
  stack : List Env
  ex : List Addr
  fn : Str → Bool
  calm : Bool
  pn : List (Addr × Obj)
  xe : Value → Shared → Prop
def frs (l : List Env) : List Addr := l.filterMap (·.frame)
abbrev Cx.fs (X : Cx) : List Addr := frs X.outer
def Vis (sc : Scope) (x : Str) : Prop := sc.names.lookup x = some .local ∨ sc.names.lookup x = some .cell ∨ sc.names.lookup x = some .free
def Loc (sc : Scope) (x : Str) : Prop := sc.names.lookup x = some .local ∨ sc.names.lookup x = some .cell
def Look (env : Env) (h : Heap) (m : Str → Option Value) (x : Str) (u : Value) : Prop :=
  (env.kindOf x = some .local ∧ m x = some u) ∨ ((env.kindOf x = some .cell ∨ env.kindOf x = some .free) ∧ ∃ c, env.cells.lookup x = some c ∧ h.IsCell c (some u))
structure Cx.Ok (X : Cx) : Prop where
  mod : Mod X.K X.mg X.base
  kind : X.env.scope.kind = .function
  glob : X.env.globals = mainGlobals
  blt : X.env.builtins = builtinsNs
  above : X.s₀.heap.objs.size ≤ X.env.locals
  inj : ∀ x y c, X.env.cells.lookup x = some c → X.env.cells.lookup y = some c → x = y
  has : ∀ x, (X.env.kindOf x = some .cell ∨ X.env.kindOf x = some .free) → ∃ c, X.env.cells.lookup x = some c
  cab : ∀ x c, X.fn x = true → X.env.cells.lookup x = some c → X.s₀.heap.objs.size ≤ c
  hd : X.calm = true → X.A.handled = none
  frames : X.A.frames = some X.stack
  stk : X.stack = X.outer ∨ (X.stack = X.env :: X.outer ∧ X.env.frame = some X.env.locals)
  exf : ∀ b ∈ X.ex, b ≠ X.env.locals ∧ ∀ x c, X.env.cells.lookup x = some c → c ≠ b
  bs : ∀ b o, X.base.get? b = some o → X.s₀.heap.get? b = some o ∧ X.H₀ b = none
  bsz : X.base.objs.size ≤ X.s₀.heap.objs.size
  noex : ∀ b o, X.base.get? b = some o → b ∉ X.ex
  exfs : ∀ b ∈ X.ex, b ∉ X.fs
  funs : X.s₀.heap.FunFrames X.base X.outer
  frf : ∀ b ∈ X.fs, X.H₀ b = none
structure Inv (X : Cx) (pins : List (Addr × Obj)) (σ : List (Option V)) (H : Hp) (s : Shared) : Prop where
  ok : X.Ok
  os : s.os = X.s₀.os
  bare : Bar H s.gens s.toks
  base : Un X.fs X.ex X.H₀ H X.s₀.heap s.heap
  loc : ∃ m, s.heap.Ns X.env.locals m ∧ ∀ (i : Nat) (x : Str) (v : V), X.N[i]? = some x → σ[i]? = some (some v) → Vis X.env.scope x → ∃ u, RelV v u ∧ Look X.env s.heap m x u
  cell : ∀ x c, X.env.cells.lookup x = some c → ∃ v, s.heap.IsCell c v
  free : H X.env.locals = none
  freeC : ∀ x c, X.env.cells.lookup x = some c → H c = none
  pin : ∀ p ∈ X.pn ++ pins, s.heap.get? p.1 = some p.2 ∧ H p.1 = none ∧ p.1 ≠ X.env.locals ∧ p.1 ∉ X.fs ∧ ∀ v, p.2.data ≠ .cell v
  hok : HOk X.prog X.w H s.heap
  len : σ.length = X.N.length
section
variable {X : Cx} {pins : List (Addr × Obj)} {σ : List (Option V)} {H H' : Hp} {s : Shared} {h' : Heap}
theorem Cx.Ok.nofr (ok : X.Ok) {b : Addr} {o : Obj} (e : X.base.get? b = some o) : b ∉ X.fs := fun hb => by
  have := (ok.funs.mem hb).1
  rw [e] at this; cases this
theorem Inv.bs (I : Inv X pins σ H s) : ∀ b o, X.base.get? b = some o → s.heap.get? b = some o ∧ H b = none := fun b o e =>
  ⟨I.base.keep b o (I.ok.bs b o e).1 (I.ok.bs b o e).2 (I.ok.nofr e) (I.ok.noex b o e), I.base.free b o (I.ok.bs b o e).1 (I.ok.bs b o e).2 (I.ok.noex b o e)⟩
theorem Inv.bk (I : Inv X pins σ H s) : ∀ b o, X.base.get? b = some o → s.heap.get? b = some o := fun b o e => (I.bs b o e).1
theorem Inv.mod (I : Inv X pins σ H s) : Mod X.K X.mg X.base := I.ok.mod
theorem Inv.kIn (I : Inv X pins σ H s) : X.K.In s.heap := I.ok.mod.kin.keeps I.bk
theorem Inv.nolimit (I : Inv X pins σ H s) : s.heap.NoLimit := I.ok.mod.nolimit.keeps I.bk
theorem Inv.fr (I : Inv X pins σ H s) : ∃ m, Fr X.base X.env.locals s.heap m :=
  let ⟨m, hn, _⟩ := I.loc
  ⟨m, hn, I.bk, Nat.le_trans I.ok.bsz I.ok.above⟩
theorem Inv.lt (I : Inv X pins σ H s) : X.env.locals < s.heap.objs.size := let ⟨_, hn, _⟩ := I.loc; hn.lt
theorem Inv.sz (I : Inv X pins σ H s) : X.s₀.heap.objs.size ≤ s.heap.objs.size := Nat.le_trans I.ok.above (Nat.le_of_lt I.lt)
theorem Inv.nofs (I : Inv X pins σ H s) {a : Addr} (h : s.heap.objs.size ≤ a) : a ∉ X.fs := fun hb => by
  obtain ⟨_, o, ho, _⟩ := I.ok.funs.mem hb
  exact absurd (Nat.lt_of_lt_of_le (Heap.lt_size ho) (Nat.le_trans I.sz h)) (Nat.lt_irrefl _)
theorem Inv.cne (I : Inv X pins σ H s) : ∀ x c, X.env.cells.lookup x = some c → c ≠ X.env.locals := fun x c e z => by
  obtain ⟨v, o, ho, hd⟩ := I.cell x c e
  obtain ⟨m, ⟨o', es, ep, ho', hd', _⟩, _⟩ := I.loc
  rw [z, ho'] at ho; cases ho; rw [hd'] at hd; cases hd
theorem Inv.funs (I : Inv X pins σ H s) : s.heap.FunFrames X.base X.outer := by
  have all : ∀ (l : List Env), (∀ b ∈ frs l, b ∈ X.fs) → X.s₀.heap.FunFrames X.base l → s.heap.FunFrames X.base l := by
    intro l
    induction l with
    | nil => intro _ _; trivial
    | cons env r ih =>
      intro hs hl
      obtain ⟨hk, ⟨L, o, hf, hn, ho, hd⟩, hr⟩ := hl
      have hL : L ∈ X.fs := hs L (by unfold frs; rw [List.filterMap_cons, hf]; exact List.mem_cons_self)
      obtain ⟨sl, e⟩ := I.base.slot L o ho (I.ok.frf L hL) hL fun z => I.ok.exfs L z hL
      exact ⟨hk, ⟨L, _, hf, hn, e, hd⟩, ih (fun b hb => hs b (by unfold frs; rw [List.filterMap_cons, hf]; exact List.mem_cons_of_mem _ hb)) hr⟩
  exact all X.outer (fun _ hb => hb) I.ok.funs
theorem Inv.stack (I : Inv X pins σ H s) : s.heap.FunFrames X.base X.stack := by
  rcases I.ok.stk with e | ⟨e, hf⟩
  · rw [e]; exact I.funs
  · rw [e]
    obtain ⟨m, hn, _⟩ := I.loc
    refine .cons (by rw [I.ok.kind]; decide) hf hn ?_ I.funs
    exact Heap.get?_none_of_le (Nat.le_trans I.ok.bsz I.ok.above)
theorem Inv.stkSub (I : Inv X pins σ H s) : ∀ b ∈ frs X.stack, b ∈ X.env.locals :: X.fs := fun b hb => by
  rcases I.ok.stk with e | ⟨e, hf⟩
  · rw [e] at hb; exact List.mem_cons_of_mem _ hb
  · rw [e] at hb
    unfold frs at hb
    rw [List.filterMap_cons, hf] at hb
    exact hb
theorem Inv.stkFree (I : Inv X pins σ H s) : ∀ b ∈ frs X.stack, H b = none := fun b hb => by
  rcases List.mem_cons.mp (I.stkSub b hb) with e | hb
  · rw [e]; exact I.free
  · obtain ⟨_, o, ho, _⟩ := I.ok.funs.mem hb
    exact I.base.free b o ho (I.ok.frf b hb) fun z => I.ok.exfs b z hb
theorem Inv.step {g' : Array GenState} {t' : Nat} {d' : Drawn} {ch : List Addr} (I : Inv X pins σ H s)
    (hch : ∀ b ∈ ch, (b ∈ X.ex ∨ X.s₀.heap.objs.size ≤ b) ∧ b ≠ X.env.locals ∧ (∀ x c, X.env.cells.lookup x = some c → c ≠ b) ∧ ∀ p ∈ X.pn ++ pins, p.1 ≠ b)
    (keep : ∀ b o, b ≠ X.env.locals → b ∉ X.fs → b ∉ ch → s.heap.get? b = some o → H b = none → h'.get? b = some o)
    (slot : ∀ b o, b ≠ X.env.locals → b ∈ X.fs → b ∉ ch → s.heap.get? b = some o → H b = none → ∃ sl, h'.get? b = some { o with slots := sl }) (free : ∀ b o, b ∉ ch → s.heap.get? b = some o → H b = none → H' b = none)
    (there : ∀ b o, b ∉ ch → s.heap.get? b = some o → ∃ o', h'.get? b = some o')
    (tups : ∀ b xs, H b = some (.tup xs) → H' b = some (.tup xs)) (frzs : ∀ b o u, H b = some (.frz o u) → H' b = some (.frz o u)) (tbls : ∀ b ps, H b = some (.tbl ps) → ∃ more, H' b = some (.tbl (ps ++ more)))
    (ns : ∀ m, s.heap.Ns X.env.locals m → h'.Ns X.env.locals m) (hok : HOk X.prog X.w H' h') (hg : Bar H' g' t') :
    Inv X pins σ H' { s with heap := h', gens := g', drawn := d', toks := t' } := by
  have neL : ∀ b o, X.s₀.heap.get? b = some o → b ≠ X.env.locals := fun b o e => Nat.ne_of_lt (Nat.lt_of_lt_of_le (Heap.lt_size e) I.ok.above)
  have neC : ∀ b o, X.s₀.heap.get? b = some o → b ∉ X.ex → b ∉ ch := fun b o e hx hb => by
    rcases (hch b hb).1 with z | z
    · exact hx z
    · exact absurd (Nat.lt_of_lt_of_le (Heap.lt_size e) z) (Nat.lt_irrefl _)
  have cellK : ∀ x c, X.env.cells.lookup x = some c → ∀ v, s.heap.IsCell c v → h'.IsCell c v := fun x c e v ⟨o, ho, hd⟩ => by
    have nch : c ∉ ch := fun z => (hch c z).2.2.1 x c e rfl
    by_cases hc : c ∈ X.fs
    · obtain ⟨sl, q⟩ := slot c o (I.cne x c e) hc nch ho (I.freeC x c e)
      exact ⟨_, q, hd⟩
    · exact ⟨o, keep c o (I.cne x c e) hc nch ho (I.freeC x c e), hd⟩
  refine ⟨I.ok, I.os, hg, ⟨fun b o e n hb hx => ?_, fun b o e n hb hx => ?_, fun b o e n hx => ?_, fun b o e hx => ?_, fun b xs e => tups b xs (I.base.tups b xs e), fun b o xs e => frzs b o xs (I.base.frzs b o xs e), fun b ps e => ?_⟩, ?_, fun x c e => ?_, ?_, fun x c e => ?_, fun p hp => ?_, hok, I.len⟩
  · exact keep b o (neL b o e) hb (neC b o e hx) (I.base.keep b o e n hb hx) (I.base.free b o e n hx)
  · obtain ⟨sl, e1⟩ := I.base.slot b o e n hb hx
    obtain ⟨sl', e2⟩ := slot b _ (neL b o e) hb (neC b o e hx) e1 (I.base.free b o e n hx)
    exact ⟨sl', e2⟩
  · obtain ⟨o', e1⟩ := I.base.there b o e hx
    exact free b o' (neC b o e hx) e1 (I.base.free b o e n hx)
  · obtain ⟨o', e1⟩ := I.base.there b o e hx
    exact there b o' (neC b o e hx) e1
  · obtain ⟨m1, e1⟩ := I.base.tbls b ps e
    obtain ⟨m2, e2⟩ := tbls b _ e1
    exact ⟨m1 ++ m2, by rw [e2, Array.append_assoc]⟩
  · obtain ⟨m, hn, hl⟩ := I.loc
    refine ⟨m, ns m hn, fun i x v e1 e2 e3 => ?_⟩
    obtain ⟨u, r, l⟩ := hl i x v e1 e2 e3
    refine ⟨u, r, ?_⟩
    rcases l with l | ⟨k, c, e, z⟩
    · exact .inl l
    · exact .inr ⟨k, c, e, cellK x c e _ z⟩
  · obtain ⟨v, z⟩ := I.cell x c e
    exact ⟨v, cellK x c e v z⟩
  · obtain ⟨m, ⟨o, _, _, ho, _⟩, _⟩ := I.loc
    exact free _ o (fun z => (hch _ z).2.1 rfl) ho I.free
  · obtain ⟨v, o, ho, hd⟩ := I.cell x c e
    exact free c o (fun z => (hch c z).2.2.1 x c e rfl) ho (I.freeC x c e)
  · obtain ⟨e, n, ne, nf, d⟩ := I.pin p hp
    have nch : p.1 ∉ ch := fun z => (hch p.1 z).2.2.2 p hp rfl
    exact ⟨keep p.1 p.2 ne nf nch e n, free p.1 p.2 nch e n, ne, nf, d⟩
theorem Inv.un {t' : Nat} (I : Inv X pins σ H s) (u : Un X.fs [] H H' s.heap h') (hok : HOk X.prog X.w H' h') (ht : s.toks ≤ t' := by first | exact Nat.le_refl _ | exact Nat.le_succ _ | assumption | omega) (hcl : H'.clk ≤ H.clk := by exact Nat.le_refl _) : Inv X pins σ H' { s with heap := h', toks := t' } := by
  obtain ⟨m, ⟨o, es, ep, ho, r⟩, _⟩ := id I.loc
  obtain ⟨sl, hL⟩ := u.any ho I.free (by simp)
  exact I.step (g' := s.gens) (d' := s.drawn) (ch := []) (fun _ z => nomatch z) (fun b o _ hb _ e n => u.keep b o e n hb (by simp)) (fun b o _ hb _ e n => u.slot b o e n hb (by simp)) (fun b o _ e n => u.free b o e n (by simp)) (fun b o _ e => u.there b o e (by simp)) u.tups u.frzs u.tbls (fun m' hm => by
    obtain ⟨o', es', ep', ho', r'⟩ := hm
    rw [ho] at ho'; cases ho'
    exact ⟨_, es', ep', hL, r'⟩) hok ⟨I.bare.1, Nat.le_trans hcl (Nat.le_trans I.bare.2 ht)⟩
theorem Inv.call {g' : Array GenState} {t' : Nat} {d' : Drawn} {ch : List Addr} (I : Inv X pins σ H s) (u : Un (frs X.stack) ch H H' s.heap h') (hok : HOk X.prog X.w H' h') (hg : Bar H' g' t')
    (hch : ∀ b ∈ ch, (b ∈ X.ex ∨ X.s₀.heap.objs.size ≤ b) ∧ b ≠ X.env.locals ∧ (∀ x c, X.env.cells.lookup x = some c → c ≠ b) ∧ ∀ p ∈ X.pn ++ pins, p.1 ≠ b) :
    Inv X pins σ H' { s with heap := h', gens := g', drawn := d', toks := t' } := by
  obtain ⟨m, ⟨o, es, ep, ho, r⟩, _⟩ := id I.loc
  obtain ⟨sl, hL⟩ := u.any ho I.free fun z => (hch _ z).2.1 rfl
  exact I.step (ch := ch) hch (fun b o hL hb hc e n => u.keep b o e n (fun z => (List.mem_cons.mp (I.stkSub b z)).elim hL hb) hc) (fun b o _ _ hc e n => u.any e n hc) (fun b o hc e n => u.free b o e n hc) (fun b o hc e => u.there b o e hc) u.tups u.frzs u.tbls (fun m' hm => by
    obtain ⟨o', es', ep', ho', r'⟩ := hm
    rw [ho] at ho'; cases ho'
    exact ⟨_, es', ep', hL, r'⟩) hok hg
theorem Inv.turned {t' : Nat} {it : Addr} (I : Inv X pins σ H s) (k : ∀ b o, b ≠ it → s.heap.get? b = some o → h'.get? b = some o) (hn : H it = none) (hL : it ≠ X.env.locals)
    (h1 : it ∈ X.ex ∨ X.s₀.heap.objs.size ≤ it) (h2 : ∀ x c, X.env.cells.lookup x = some c → c ≠ it) (h3 : ∀ p ∈ X.pn ++ pins, p.1 ≠ it) (ht : s.toks ≤ t' := by first | exact Nat.le_refl _ | exact Nat.le_succ _ | assumption | omega) : Inv X pins σ H { s with heap := h', toks := t' } := by
  have nit : ∀ b u, H b = some u → b ≠ it := fun b u e z => by rw [z, hn] at e; cases e
  refine I.step (g' := s.gens) (d' := s.drawn) (ch := [it]) (fun b hb => ?_) (fun b o _ _ hc e _ => k b o (fun z => hc (by simp [z])) e) (fun b o _ _ hc e _ => ⟨o.slots, k b o (fun z => hc (by simp [z])) e⟩) (fun _ _ _ _ n => n)
    (fun b o hc e => ⟨o, k b o (fun z => hc (by simp [z])) e⟩) (fun _ _ e => e) (fun _ _ _ e => e) (fun b ps e => ⟨#[], by rw [e]; simp⟩) (fun m hm => ?_) (fun b u e => ?_) ⟨I.bare.1, Nat.le_trans I.bare.2 ht⟩
  · have e : b = it := by simpa using hb
    subst e
    exact ⟨h1, hL, h2, h3⟩
  · obtain ⟨o, es, ep, ho, r⟩ := hm
    exact ⟨o, es, ep, k _ o (Ne.symm hL) ho, r⟩
  · refine (I.hok b u e).stay (fun c v hc q => k c v ?_ q) (fun _ q => q) fun _ _ q => q
    rcases hc with z | z
    · rw [z]; exact nit b u e
    · exact nit c _ z
theorem Inv.tok (I : Inv X pins σ H s) (t : Nat) (ht : s.toks ≤ t := by first | exact Nat.le_refl _ | exact Nat.le_succ _ | assumption | omega) : Inv X pins σ H { s with toks := t } := I.un (h' := s.heap) (t' := t) Un.refl I.hok ht
theorem Inv.kept {t' : Nat} (I : Inv X pins σ H s) (k : ∀ b u, s.heap.get? b = some u → h'.get? b = some u) (ht : s.toks ≤ t' := by first | exact Nat.le_refl _ | exact Nat.le_succ _ | assumption | omega) : Inv X pins σ H { s with heap := h', toks := t' } := I.un (Un.kept k) (I.hok.kept k) ht
theorem Inv.laid {a : Addr} {o : HO} {t' : Nat} (I : Inv X pins σ H s) (k : ∀ b u, s.heap.get? b = some u → h'.get? b = some u) (hp : s.heap.objs.size ≤ a) (new : ObjOk X.prog X.w (upd H a o) h' a o) (ht : s.toks ≤ t' := by first | exact Nat.le_refl _ | exact Nat.le_succ _ | assumption | omega) :
    Inv X pins σ (upd H a o) { s with heap := h', toks := t' } := I.un (Un.laid k hp (I.hok.fresh hp)) (I.hok.laid k hp new) ht
theorem Inv.write {x e : Addr} {o : HO} {t' : Nat} (I : Inv X pins σ H s) (mu : Mut (H x)) (he : e = x ∨ H e = some (.own x)) (k : ∀ b u, b ≠ e → s.heap.get? b = some u → h'.get? b = some u) (heo : ∃ u, h'.get? e = some u)
    (new : ObjOk X.prog X.w (upd H x o) h' x o) (ht : s.toks ≤ t' := by first | exact Nat.le_refl _ | exact Nat.le_succ _ | assumption | omega) : Inv X pins σ (upd H x o) { s with heap := h', toks := t' } := I.un (Un.write mu he k heo) (I.hok.write mu he k heo new) ht
theorem Inv.pins_of {pins' : List (Addr × Obj)} (I : Inv X pins σ H s) (h : ∀ p ∈ pins', s.heap.get? p.1 = some p.2 ∧ H p.1 = none ∧ p.1 ≠ X.env.locals ∧ p.1 ∉ X.fs ∧ ∀ v, p.2.data ≠ .cell v) : Inv X pins' σ H s :=
  ⟨I.ok, I.os, I.bare, I.base, I.loc, I.cell, I.free, I.freeC, fun p hp => (List.mem_append.mp hp).elim (fun z => I.pin p (List.mem_append_left _ z)) (h p), I.hok, I.len⟩
theorem nodup_ix {N : List Str} (hN : N.Nodup) {i j : Nat} {x : Str} (a : N[i]? = some x) (b : N[j]? = some x) : i = j := by
  obtain ⟨h1, e1⟩ := List.getElem?_eq_some_iff.mp a
  obtain ⟨h2, e2⟩ := List.getElem?_eq_some_iff.mp b
  exact (List.getElem_inj hN).mp (e1.trans e2.symm)
theorem store_ok2 {M : Model} {A : Around} {E : Value → Shared → Prop} {i : Nat} {x : Str} {v : V} {u : Value} {Q : Unit → Shared → Prop} (I : Inv X pins σ H s) (hN : X.N.Nodup) (hi : X.N[i]? = some x) (hx : Loc X.env.scope x) (r : RelV v u)
    (h : ∀ s', Inv X pins (σ.set i (some v)) H s' → (∃ a, Heap.SameBut a s.heap s'.heap ∧ (a = X.env.locals ∨ X.env.cells.lookup x = some a)) → Q () s') (hf : X.fn x = true ∨ X.env.scope.names.lookup x = some .local := by first | exact .inl rfl | exact .inr rfl | assumption) : wpAny M A (storeName X.env x u) Q E s := by
  obtain ⟨m, hn, hl⟩ := id I.loc
  have hcls : (X.env.scope.kind == .class || (X.env.scope.kind == .module && X.env.locals != X.env.globals)) = false := by rw [I.ok.kind]; rfl
  have hiσ : i < σ.length := by rw [I.len]; exact (List.getElem?_eq_some_iff.mp hi).1
  have cne := I.cne
  have tracked : ∀ {a : Addr} {h' : Heap}, (∃ o, s.heap.get? a = some o ∧ H a = none) → Heap.SameBut a s.heap h' → HOk X.prog X.w H h' := fun {a h'} ha hs b ob e => by
    obtain ⟨_, _, hfree⟩ := ha
    refine (I.hok b ob e).stay (fun c w' hc q => (hs.2 c ?_).trans q) (fun _ q => q) fun _ _ q => q
    rintro rfl
    rcases hc with rfl | hc
    · rw [hfree] at e; cases e
    · rw [hfree] at hc; cases hc
  rcases hx with hk | hk
  · refine wpAny_storeName_local hk hn (fun h' hn' hs => ?_) hcls
    obtain ⟨oL, _, _, hoL, _⟩ := id hn
    refine h _ ⟨I.ok, I.os, ⟨I.bare.1, Nat.le_succ_of_le I.bare.2⟩, ⟨fun b o e n hb hx => ?_, fun b o e n hb hx => ?_, I.base.free, fun b o e hx => ?_, I.base.tups, I.base.frzs, I.base.tbls⟩, ⟨_, hn', fun j y v' e1 e2 e3 => ?_⟩, fun y c e => ?_, I.free, I.freeC, fun p hp => ?_, tracked ⟨oL, hoL, I.free⟩ hs, by simpa using I.len⟩ ⟨_, hs, .inl rfl⟩
    · exact (hs.2 b (Nat.ne_of_lt (Nat.lt_of_lt_of_le (Heap.lt_size e) I.ok.above))).trans (I.base.keep b o e n hb hx)
    · obtain ⟨sl, e1⟩ := I.base.slot b o e n hb hx
      exact ⟨sl, (hs.2 b (Nat.ne_of_lt (Nat.lt_of_lt_of_le (Heap.lt_size e) I.ok.above))).trans e1⟩
    · obtain ⟨o', e1⟩ := I.base.there b o e hx
      exact ⟨o', (hs.2 b (Nat.ne_of_lt (Nat.lt_of_lt_of_le (Heap.lt_size e) I.ok.above))).trans e1⟩
    · by_cases hj : j = i
      · subst hj
        rw [hi] at e1; cases e1
        rw [List.getElem?_set_self hiσ] at e2
        cases e2
        exact ⟨u, r, .inl ⟨hk, by simp⟩⟩
      · rw [List.getElem?_set_ne (Ne.symm hj)] at e2
        obtain ⟨u', r', q⟩ := hl j y v' e1 e2 e3
        refine ⟨u', r', ?_⟩
        rcases q with ⟨k, e⟩ | ⟨k, c, e, z⟩
        · refine .inl ⟨k, ?_⟩
          have : y ≠ x := fun e => hj (nodup_ix hN e1 (e ▸ hi))
          simp [this, e]
        · exact .inr ⟨k, c, e, z.sameBut hs (cne y c e)⟩
    · obtain ⟨w', z⟩ := I.cell y c e
      exact ⟨w', z.sameBut hs (cne y c e)⟩
    · obtain ⟨e, n, ne, nf, d⟩ := I.pin p hp
      exact ⟨(hs.2 p.1 ne).trans e, n, ne, nf, d⟩
  · have hfn : X.fn x = true := by
      rcases hf with z | z
      · exact z
      · rw [z] at hk; cases hk
    obtain ⟨c, hc⟩ := I.ok.has x (.inl hk)
    obtain ⟨w', z⟩ := I.cell x c hc
    refine wpAny_storeName_cell I.ok.kind hk hc z (fun h' hc' hs => ?_)
    obtain ⟨oc, hoc, hocd⟩ := id z
    refine h { s with heap := h' } ⟨I.ok, I.os, I.bare, ⟨fun b o e n hb hx => ?_, fun b o e n hb hx => ?_, I.base.free, fun b o e hx => ?_, I.base.tups, I.base.frzs, I.base.tbls⟩, ⟨m, hn.sameBut hs (Ne.symm (cne x c hc)), fun j y v' e1 e2 e3 => ?_⟩, fun y c' e => ?_, I.free, I.freeC, fun p hp => ?_, tracked ⟨oc, hoc, I.freeC x c hc⟩ hs, by simpa using I.len⟩ ⟨c, hs, .inr hc⟩
    · exact (hs.2 b (Nat.ne_of_lt (Nat.lt_of_lt_of_le (Heap.lt_size e) (I.ok.cab x c hfn hc)))).trans (I.base.keep b o e n hb hx)
    · obtain ⟨sl, e1⟩ := I.base.slot b o e n hb hx
      exact ⟨sl, (hs.2 b (Nat.ne_of_lt (Nat.lt_of_lt_of_le (Heap.lt_size e) (I.ok.cab x c hfn hc)))).trans e1⟩
    · obtain ⟨o', e1⟩ := I.base.there b o e hx
      exact ⟨o', (hs.2 b (Nat.ne_of_lt (Nat.lt_of_lt_of_le (Heap.lt_size e) (I.ok.cab x c hfn hc)))).trans e1⟩
    · by_cases hj : j = i
      · subst hj
        rw [hi] at e1; cases e1
        rw [List.getElem?_set_self hiσ] at e2
        cases e2
        exact ⟨u, r, .inr ⟨.inl hk, c, hc, hc'⟩⟩
      · rw [List.getElem?_set_ne (Ne.symm hj)] at e2
        obtain ⟨u', r', q⟩ := hl j y v' e1 e2 e3
        refine ⟨u', r', ?_⟩
        rcases q with q | ⟨k, c', e, z'⟩
        · exact .inl q
        · refine .inr ⟨k, c', e, z'.sameBut hs ?_⟩
          rintro rfl
          exact hj (nodup_ix hN e1 (I.ok.inj _ _ _ e hc ▸ hi))
    · by_cases hcc : c' = c
      · subst hcc; exact ⟨_, hc'⟩
      · obtain ⟨w2, z2⟩ := I.cell y c' e
        exact ⟨w2, z2.sameBut hs hcc⟩
    · obtain ⟨e, n, ne, nf, d⟩ := I.pin p hp
      refine ⟨(hs.2 p.1 ?_).trans e, n, ne, nf, d⟩
      intro q
      rw [q, hoc] at e
      have q' : oc = p.2 := Option.some.inj e
      exact d w' (by rw [← q']; exact hocd)
theorem store_ok {M : Model} {A : Around} {E : Value → Shared → Prop} {i : Nat} {x : Str} {v : V} {u : Value} {Q : Unit → Shared → Prop} (I : Inv X pins σ H s) (hN : X.N.Nodup) (hi : X.N[i]? = some x) (hx : Loc X.env.scope x) (r : RelV v u)
    (h : ∀ s', Inv X pins (σ.set i (some v)) H s' → Q () s') (hf : X.fn x = true ∨ X.env.scope.names.lookup x = some .local := by first | exact .inl rfl | exact .inr rfl | assumption) : wpAny M A (storeName X.env x u) Q E s :=
  store_ok2 I hN hi hx r (fun s' I' _ => h s' I') hf
theorem Inv.call' {s' : Shared} {ch : List Addr} (I : Inv X pins σ H s) (ho : s'.os = s.os) (u : Un (frs X.stack) ch H H' s.heap s'.heap) (hok : HOk X.prog X.w H' s'.heap) (hg : Bar H' s'.gens s'.toks)
    (hch : ∀ b ∈ ch, (b ∈ X.ex ∨ X.s₀.heap.objs.size ≤ b) ∧ b ≠ X.env.locals ∧ (∀ x c, X.env.cells.lookup x = some c → c ≠ b) ∧ ∀ p ∈ X.pn ++ pins, p.1 ≠ b) : Inv X pins σ H' s' := by
  obtain ⟨h', g', d', t', o'⟩ := s'
  have e : o' = s.os := ho
  subst e
  exact I.call (g' := g') (t' := t') (d' := d') u hok hg hch
end
abbrev XK := Value → Option Addr → Hp → Prop
abbrev St := List (Option V)
abbrev VK := V → Hp → Prop
abbrev TE := St → Hp → VK → Prop
abbrev TT := St → Hp → (Bool → Hp → Prop) → Prop
abbrev TA := St → Hp → (List V → Hp → Prop) → Prop
structure Ends where
  nx : St → Hp → Prop
  rt : VK
  bk : St → Hp → Prop := fun _ _ => False
  ct : St → Hp → Prop := fun _ _ => False
abbrev TS := Ends → St → Hp → Prop
def EP (X : Cx) (pins : List (Addr × Obj)) (σ : St) (Q : VK) (u : Value) (s' : Shared) : Prop := ∃ v H', Inv X pins σ H' s' ∧ RelV v u ∧ Q v H'
def TP (X : Cx) (pins : List (Addr × Obj)) (σ : St) (Q : Bool → Hp → Prop) (b : Bool) (s' : Shared) : Prop := ∃ H', Inv X pins σ H' s' ∧ Q b H'
def AP (X : Cx) (pins : List (Addr × Obj)) (σ : St) (Q : List V → Hp → Prop) (us : List Value) (s' : Shared) : Prop := ∃ vs H', Inv X pins σ H' s' ∧ Vals vs us ∧ Q vs H'
def SP (X : Cx) (pins : List (Addr × Obj)) (D : Ends) (f : Flow) (s' : Shared) : Prop :=
  match f with
  | .next => ∃ σ' H', Inv X pins σ' H' s' ∧ D.nx σ' H'
  | .brk => ∃ σ' H', Inv X pins σ' H' s' ∧ D.bk σ' H'
  | .cont => ∃ σ' H', Inv X pins σ' H' s' ∧ D.ct σ' H'
  | .ret u => ∃ v σ' H', Inv X pins σ' H' s' ∧ RelV v u ∧ D.rt v H'
def PE (X : Cx) (e : Expr) (t : TE) : Prop :=
  ∀ (pins : List (Addr × Obj)) (s : Shared) (σ : St) (H : Hp) (Q : VK), Inv X pins σ H s → t σ H Q → wpAny (model X.prog X.w) X.A (eval e X.env) (EP X pins σ Q) X.xe s
def PT (X : Cx) (e : Expr) (t : TT) : Prop :=
  ∀ (pins : List (Addr × Obj)) (s : Shared) (σ : St) (H : Hp) (Q : Bool → Hp → Prop), Inv X pins σ H s → t σ H Q → wpAny (model X.prog X.w) X.A (isTrue e X.env (eval e X.env)) (TP X pins σ Q) X.xe s
def PW (X : Cx) (e : Expr) (t : TT) : Prop :=
  ∀ (whole : Sem Value) (pins : List (Addr × Obj)) (s : Shared) (σ : St) (H : Hp) (Q : Bool → Hp → Prop), Inv X pins σ H s → t σ H Q → wpAny (model X.prog X.w) X.A (isTrue e X.env whole) (TP X pins σ Q) X.xe s
theorem PW.pt {X : Cx} {e : Expr} {t : TT} (h : PW X e t) : PT X e t := h _
def PA (X : Cx) (es : List Expr) (t : TA) : Prop :=
  ∀ (pos : Pos) (pins : List (Addr × Obj)) (s : Shared) (σ : St) (H : Hp) (Q : List V → Hp → Prop), Inv X pins σ H s → t σ H Q → wpAny (model X.prog X.w) X.A (spliced (backTo pos (starEach es X.env))) (AP X pins σ Q) X.xe s
def PS (X : Cx) (st : Stmt) (t : TS) : Prop :=
  ∀ (pins : List (Addr × Obj)) (s : Shared) (σ : St) (H : Hp) (D : Ends), Inv X pins σ H s → t D σ H → wpAny (model X.prog X.w) X.A (exec st X.env) (SP X pins D) X.xe s
def PSs (X : Cx) (st : List Stmt) (t : TS) : Prop :=
  ∀ (pins : List (Addr × Obj)) (s : Shared) (σ : St) (H : Hp) (D : Ends), Inv X pins σ H s → t D σ H → wpAny (model X.prog X.w) X.A (execs st X.env) (SP X pins D) X.xe s
theorem thn {α : Type} {t : Sem α} {Q Q' : α → Shared → Prop} {M : Model} {A : Around} {E : Value → Shared → Prop} {s : Shared} (h : wpAny M A t Q E s) (hQ : ∀ a s, Q a s → Q' a s) : wpAny M A t Q' E s := wpAny_mono h hQ fun _ _ x => x
end L2
namespace L2
open PySem PySem.Spec PyProof.Rows
section
variable {X : Cx}
def tVar (i : Nat) : TE := fun σ H Q => ∃ v, σ[i]? = some (some v) ∧ Q v H
def tC (v : V) : TE := fun _ H Q => Q v H
theorem pe_var {i : Nat} {x : Str} {pos : Pos} (hN : X.N[i]? = some x) (hv : Vis X.env.scope x) (hd : (x == ("__debug__" : Str)) = false := by decide) (hcd : (x == ("__classdict__" : Str)) = false := by decide) : PE X (.Name x pos) (tVar i) := by
  intro pins s σ H Q I h
  obtain ⟨v, e, h⟩ := h
  obtain ⟨m, hn, hl⟩ := I.loc
  obtain ⟨u, r, l⟩ := hl i x v hN e hv
  have fin : EP X pins σ Q u s := ⟨v, H, I, r, h⟩
  rcases l with ⟨hk, hm⟩ | ⟨hk, c, hc, hcell⟩
  · exact wpAny_Name (wpAny_loadName_local I.ok.kind hk hn hm fin) hd
  · rcases hk with hk | hk
    · exact wpAny_Name (wpAny_loadName_cell I.ok.kind hk hc hcell fin) hd
    · exact wpAny_Name (wpAny_loadName_free I.ok.kind hk hc hcell fin hcd) hd
theorem pe_int {i j pos} : PE X (.Constant (.int i) j pos) (tC (.int i)) := fun _ _ _ H _ I h => wpAny_Constant_int ⟨.int i, H, I.tok _, ⟨_, rfl⟩, h⟩
theorem pe_bl {b j pos} : PE X (.Constant (.bool b) j pos) (tC (.bl b)) := fun _ _ _ H _ I h => Constant_bool ⟨.bl b, H, I, rfl, h⟩
theorem pe_str {x j pos} : PE X (.Constant (.str x) j pos) (tC (.str x)) := fun _ _ _ H _ I h => Calls.Constant_str ⟨.str x, H, I.tok _, ⟨_, rfl⟩, h⟩
def Gl (X : Cx) (x : Str) : Prop := X.env.kindOf x = some .globalImplicit
theorem ld_glob {E : Value → Shared → Prop} {pins : List (Addr × Obj)} {s : Shared} {σ : St} {H : Hp} {x : Str} {u : Value} {pos : Pos} {Q : Value → Shared → Prop} (I : Inv X pins σ H s) (hg : Gl X x) (hm : X.mg x = some u) (h : Q u s)
    (hd : (x == ("__debug__" : Str)) = false := by decide) : wpAny (model X.prog X.w) X.A (eval (.Name x pos) X.env) Q E s :=
  Calls.Name_function_global I.ok.kind hg (Calls.loadGlobal_global (by rw [I.ok.glob]; exact I.mod.glob.keeps I.bk) hm h) hd
theorem ld_blt {E : Value → Shared → Prop} {pins : List (Addr × Obj)} {s : Shared} {σ : St} {H : Hp} {x : Str} {u : Value} {pos : Pos} {Q : Value → Shared → Prop} (I : Inv X pins σ H s) (hg : Gl X x) (hm : X.mg x = none) (hv : bootBuiltins x = some u) (h : Q u s)
    (hn : x ≠ "__name__" := by decide) (hd : (x == ("__debug__" : Str)) = false := by decide) : wpAny (model X.prog X.w) X.A (eval (.Name x pos) X.env) Q E s := by
  obtain ⟨mb, h1, h2⟩ := I.mod.blt
  exact Calls.Name_function_global I.ok.kind hg (Calls.loadGlobal_builtin (by rw [I.ok.glob]; exact I.mod.glob.keeps I.bk) hm (by rw [I.ok.blt]; exact h1.keeps I.bk) ((h2 x hn).trans hv) h) hd
theorem pe_bltn {x : Str} {v : V} {u : Value} {pos : Pos} (hg : Gl X x) (hm : X.mg x = none) (hv : bootBuiltins x = some u) (r : RelV v u) (hn : x ≠ "__name__" := by decide) (hd : (x == ("__debug__" : Str)) = false := by decide) : PE X (.Name x pos) (tC v) :=
  fun _ _ _ H _ I h => ld_blt I hg hm hv ⟨v, H, I, r, h⟩ hn hd
variable {a b : Expr} {ta tb : TE} {pos : Pos}
def tB (t : TE) : TT := fun σ H Q => t σ H fun x H1 => ∃ c, x = .bl c ∧ Q c H1
theorem pt_val {e : Expr} {t : TE} (h : PE X e t) (he : ∀ whole, isTrue e X.env whole = (do let v ← whole; standAt e.pos; holding [v] (truthy v)) := by intro _; rfl) : PT X e (tB t) := by
  intro pins s σ H Q I hw
  refine isTrue_plain (thn (h pins s σ H _ I hw) fun v s1 ⟨x, H1, I1, r1, q1⟩ => ?_) (he _)
  obtain ⟨d, rfl, q⟩ := q1
  cases r1
  exact wpAny_truthy_bool ⟨H1, I1, q⟩
variable {tA tB' : TT} {rest : List Expr}
def tAnd (t u : TT) : TT := fun σ H Q => t σ H fun c H1 => if c = true then u σ H1 Q else Q false H1
def tOr (t u : TT) : TT := fun σ H Q => t σ H fun c H1 => if c = true then Q true H1 else u σ H1 Q
def tNot (t : TT) : TT := fun σ H Q => t σ H fun c H1 => Q (!c) H1
theorem pw_and1 (ha : PT X a tA) : PW X (.BoolOp .And [a] pos) tA := by
  intro wh pins s σ H Q I h
  refine isTrue_and (thn (ha pins s σ H Q I h) fun c s1 e => ?_)
  cases c with
  | true => exact isTrue_and_nil e
  | false => exact e
theorem pw_or1 (ha : PT X a tA) : PW X (.BoolOp .Or [a] pos) tA := by
  intro wh pins s σ H Q I h
  refine isTrue_or (thn (ha pins s σ H Q I h) fun c s1 e => ?_)
  cases c with
  | false => exact isTrue_or_nil e
  | true => exact e
theorem pw_and (ha : PT X a tA) (hb : PW X (.BoolOp .And (b :: rest) pos) tB') : PW X (.BoolOp .And (a :: b :: rest) pos) (tAnd tA tB') := by
  intro wh pins s σ H Q I h
  refine isTrue_and (thn (ha pins s σ H _ I h) fun c s1 ⟨H1, I1, q1⟩ => ?_)
  cases c with
  | true => exact hb wh pins s1 σ H1 Q I1 q1
  | false => exact ⟨H1, I1, q1⟩
theorem pw_or (ha : PT X a tA) (hb : PW X (.BoolOp .Or (b :: rest) pos) tB') : PW X (.BoolOp .Or (a :: b :: rest) pos) (tOr tA tB') := by
  intro wh pins s σ H Q I h
  refine isTrue_or (thn (ha pins s σ H _ I h) fun c s1 ⟨H1, I1, q1⟩ => ?_)
  cases c with
  | true => exact ⟨H1, I1, q1⟩
  | false => exact hb wh pins s1 σ H1 Q I1 q1
theorem pt_not (ha : PT X a tA) : PT X (.UnaryOp .Not a pos) (tNot tA) := by
  intro pins s σ H Q I h
  exact isTrue_not (ha pins s σ H (fun c H1 => Q (!c) H1) I h)
def tAndV (ta tb : TE) : TE := fun σ H Q => ta σ H fun x H1 => ∃ c, x = .bl c ∧ if c = true then tb σ H1 Q else Q (.bl false) H1
def tOrV (ta tb : TE) : TE := fun σ H Q => ta σ H fun x H1 => ∃ c, x = .bl c ∧ if c = true then Q (.bl true) H1 else tb σ H1 Q
def tNotV (ta : TE) : TE := fun σ H Q => ta σ H fun x H1 => ∃ c, x = .bl c ∧ Q (.bl (!c)) H1
theorem pe_one {op} {t : TE} (h : PE X a t) : PE X (.BoolOp op [a] pos) t := fun pins s σ H Q I hw => BoolOp_one (h pins s σ H Q I hw)
theorem pe_and (ha : PE X a ta) (hb : PE X (.BoolOp .And (b :: rest) pos) tb) : PE X (.BoolOp .And (a :: b :: rest) pos) (tAndV ta tb) := by
  intro pins s σ H Q I h
  refine BoolOp_and (thn (ha pins s σ H _ I h) fun v s1 ⟨x, H1, I1, r1, q1⟩ => ?_)
  obtain ⟨c, rfl, q1⟩ := q1
  cases r1
  refine wpAny_truthy_bool ?_
  cases c with
  | true => exact hb pins s1 σ H1 Q I1 q1
  | false => exact ⟨.bl false, H1, I1, rfl, q1⟩
theorem pe_or (ha : PE X a ta) (hb : PE X (.BoolOp .Or (b :: rest) pos) tb) : PE X (.BoolOp .Or (a :: b :: rest) pos) (tOrV ta tb) := by
  intro pins s σ H Q I h
  refine BoolOp_or (thn (ha pins s σ H _ I h) fun v s1 ⟨x, H1, I1, r1, q1⟩ => ?_)
  obtain ⟨c, rfl, q1⟩ := q1
  cases r1
  refine wpAny_truthy_bool ?_
  cases c with
  | false => exact hb pins s1 σ H1 Q I1 q1
  | true => exact ⟨.bl true, H1, I1, rfl, q1⟩
theorem pe_not (ha : PE X a ta) : PE X (.UnaryOp .Not a pos) (tNotV ta) := by
  intro pins s σ H Q I h
  refine UnaryOp_ (thn (ha pins s σ H _ I h) fun v s1 ⟨x, H1, I1, r1, q1⟩ => ?_)
  obtain ⟨c, rfl, q1⟩ := q1
  cases r1
  exact not_of (wpAny_truthy_bool ⟨.bl (!c), H1, I1, rfl, q1⟩)
end
end L2
namespace L2
open PySem PySem.Spec PyProof.Rows
def SqL (K : PySem.W.Frag) (H : Hp) (a : Addr) (xs : List V) : Prop :=
  Rd H a (.lst xs) ∨
    ∃ (o : Obj) (its : Array Value) (n : Nat), K.lookup a = some o ∧ o.cls = .type "list" ∧ o.dict = none ∧ o.data = .seq its n ∧ its.size ≤ sizeLine ∧ Vals xs its.toList ∧ ∀ x a n, V.old x a n ∉ xs
def SqT (K : PySem.W.Frag) (H : Hp) (a : Addr) (xs : List V) : Prop :=
  Rd H a (.tup xs) ∨
    ∃ (o : Obj) (its : Array Value) (n : Nat), K.lookup a = some o ∧ o.cls = .type "tuple" ∧ o.data = .seq its n ∧ its.size ≤ sizeLine ∧ Vals xs its.toList ∧ ∀ x a n, V.old x a n ∉ xs
def absV : Value → Option V
  | .none => some .non
  | .bool b => some (.bl b)
  | .int i _ => some (.int i)
  | .str x _ => some (.str x)
  | .bytes b _ => some (.byt b)
  | .float b _ => some (.flt b)
  | .ref a => some (.ref a)
  | .type n => some (.ty n)
  | _ => none
def NoOld (xs : List V) : Prop := ∀ x a n, V.old x a n ∉ xs
theorem RelV.abs {x : V} {u : Value} (r : RelV x u) (no : ∀ y a n, V.old y a n ≠ x) : absV u = some x := by
  cases x with
  | old y a n => exact absurd rfl (no y a n)
  | non => cases r; rfl
  | bl _ => cases r; rfl
  | int _ => obtain ⟨t, rfl⟩ := r; rfl
  | str _ => obtain ⟨t, rfl⟩ := r; rfl
  | byt _ => obtain ⟨t, rfl⟩ := r; rfl
  | flt _ => obtain ⟨t, rfl⟩ := r; rfl
  | ref _ => cases r; rfl
  | ty _ => cases r; rfl
theorem RelV.inj {x y : V} {u : Value} (r : RelV x u) (q : RelV y u) (n1 : ∀ z a n, V.old z a n ≠ x) (n2 : ∀ z a n, V.old z a n ≠ y) : x = y := Option.some.inj ((r.abs n1).symm.trans (q.abs n2))
theorem Vals.inj : ∀ {xs ys : List V} {us : List Value}, Vals xs us → Vals ys us → NoOld xs → NoOld ys → xs = ys
  | _, _, _, .nil, .nil, _, _ => rfl
  | _, _, _, .cons r t, .cons r' t', n1, n2 => by
    rw [r.inj r' (fun z a n e => n1 z a n (e ▸ List.mem_cons_self)) (fun z a n e => n2 z a n (e ▸ List.mem_cons_self)), Vals.inj t t' (fun z a n h => n1 z a n (List.mem_cons_of_mem _ h)) fun z a n h => n2 z a n (List.mem_cons_of_mem _ h)]
section
variable {X : Cx} {pins : List (Addr × Obj)} {σ : St} {H : Hp} {s : Shared} {a : Addr} {xs ys : List V}
theorem SqL.of {K : PySem.W.Frag} (h : H a = some (.lst xs)) : SqL K H a xs := .inl (.inl h)
theorem SqT.of {K : PySem.W.Frag} (h : H a = some (.tup xs)) : SqT K H a xs := .inl (.inl h)
theorem Inv.list (I : Inv X pins σ H s) (h : SqL X.K H a xs) : ∃ its : List Value, Vals xs its ∧ PlainL s.heap a its.toArray ∧ xs.length ≤ sizeLine := by
  rcases h with h | ⟨o, its, n, hk, hc, hd, hs, hz, r, _⟩
  · obtain ⟨z, its, n, r, e⟩ := h.ok I.hok
    exact ⟨its, r, ⟨_, n, e, rfl, rfl, rfl⟩, z⟩
  · refine ⟨its.toList, r, ⟨o, n, I.kIn a o hk, hc, hd, by simpa using hs⟩, ?_⟩
    have e := r.length
    simp only [Array.length_toList] at e
    omega
theorem Inv.tuple (I : Inv X pins σ H s) (h : SqT X.K H a xs) : ∃ its : List Value, Vals xs its ∧ IsTup s.heap a its.toArray ∧ xs.length ≤ sizeLine := by
  rcases h with h | ⟨o, its, n, hk, hc, hs, hz, r, _⟩
  · obtain ⟨z, its, r, p⟩ := h.ok I.hok
    exact ⟨its, r, p, z⟩
  · refine ⟨its.toList, r, ⟨o, I.kIn a o hk, hc, n, by simpa using hs⟩, ?_⟩
    have e := r.length
    simp only [Array.length_toList] at e
    omega
theorem Rd.one {u v : HO} (h : Rd H a u) (h' : Rd H a v) : (∃ o, u = .frz o v) ∨ (∃ o, v = .frz o u) ∨ u = v := by
  rcases h with h | ⟨o, h⟩
  · rcases h' with h' | ⟨o', h'⟩
    · rw [h] at h'; exact .inr (.inr (Option.some.inj h'))
    · rw [h] at h'; exact .inl ⟨o', Option.some.inj h'⟩
  · rcases h' with h' | ⟨o', h'⟩
    · rw [h] at h'; exact .inr (.inl ⟨o, (Option.some.inj h').symm⟩)
    · rw [h] at h'; cases Option.some.inj h'; exact .inr (.inr rfl)
theorem Inv.noRd (I : Inv X pins σ H s) {u : HO} {o : Obj} (h : Rd H a u) (hk : X.K.lookup a = some o) : False := by
  have n := (I.bs a o (I.mod.kin a o hk)).2
  rcases h with h | ⟨_, h⟩
  · rw [n] at h; cases h
  · rw [n] at h; cases h
theorem Inv.list_inj (I : Inv X pins σ H s) (h : SqL X.K H a xs) (h' : SqL X.K H a ys) : xs = ys := by
  rcases h with h | ⟨o, its, n, hk, _, _, d, _, r, no⟩
  · rcases h' with h' | ⟨o', its', n', hk', _⟩
    · rcases h.one h' with ⟨_, z⟩ | ⟨_, z⟩ | z
      · cases z
      · cases z
      · cases z; rfl
    · exact (I.noRd h hk').elim
  · rcases h' with h' | ⟨o', its', n', hk', _, _, d', _, r', no'⟩
    · exact (I.noRd h' hk).elim
    · rw [hk] at hk'; cases hk'
      rw [d] at d'; cases d'
      exact r.inj r' no no'
theorem Inv.tuple_inj (I : Inv X pins σ H s) (h : SqT X.K H a xs) (h' : SqT X.K H a ys) : xs = ys := by
  rcases h with h | ⟨o, its, n, hk, _, d, _, r, no⟩
  · rcases h' with h' | ⟨o', its', n', hk', _⟩
    · rcases h.one h' with ⟨_, z⟩ | ⟨_, z⟩ | z
      · cases z
      · cases z
      · cases z; rfl
    · exact (I.noRd h hk').elim
  · rcases h' with h' | ⟨o', its', n', hk', _, d', _, r', no'⟩
    · exact (I.noRd h' hk).elim
    · rw [hk] at hk'; cases hk'
      rw [d] at d'; cases d'
      exact r.inj r' no no'
end
abbrev Cx.wish (X : Cx) (E : Value → Shared → Prop) : Cx := { X with xe := E }
abbrev Cx.nox (X : Cx) : Cx := X.wish fun _ _ => False
theorem Cx.Ok.wish {X : Cx} (ok : X.Ok) (E : Value → Shared → Prop) : (X.wish E).Ok :=
  ⟨ok.mod, ok.kind, ok.glob, ok.blt, ok.above, ok.inj, ok.has, ok.cab, ok.hd, ok.frames, ok.stk, ok.exf, ok.bs, ok.bsz, ok.noex, ok.exfs, ok.funs, ok.frf⟩
theorem Cx.Ok.unwish {X : Cx} {E : Value → Shared → Prop} (ok : (X.wish E).Ok) : X.Ok :=
  ⟨ok.mod, ok.kind, ok.glob, ok.blt, ok.above, ok.inj, ok.has, ok.cab, ok.hd, ok.frames, ok.stk, ok.exf, ok.bs, ok.bsz, ok.noex, ok.exfs, ok.funs, ok.frf⟩
section
variable {X : Cx} {pins : List (Addr × Obj)} {σ : St} {H : Hp} {s : Shared} {E : Value → Shared → Prop}
theorem Inv.wish (I : Inv X pins σ H s) (E : Value → Shared → Prop) : Inv (X.wish E) pins σ H s := ⟨I.ok.wish E, I.os, I.bare, I.base, I.loc, I.cell, I.free, I.freeC, I.pin, I.hok, I.len⟩
theorem Inv.unwish (I : Inv (X.wish E) pins σ H s) : Inv X pins σ H s := ⟨I.ok.unwish, I.os, I.bare, I.base, I.loc, I.cell, I.free, I.freeC, I.pin, I.hok, I.len⟩
theorem SP.unwish {D : Ends} {f : Flow} {s' : Shared} (h : SP (X.wish E) pins D f s') : SP X pins D f s' := by
  cases f with
  | next => obtain ⟨σ', H', I, q⟩ := h; exact ⟨σ', H', I.unwish, q⟩
  | brk => obtain ⟨σ', H', I, q⟩ := h; exact ⟨σ', H', I.unwish, q⟩
  | cont => obtain ⟨σ', H', I, q⟩ := h; exact ⟨σ', H', I.unwish, q⟩
  | ret u => obtain ⟨v, σ', H', I, r, q⟩ := h; exact ⟨v, σ', H', I.unwish, r, q⟩
theorem PE.nox {e : Expr} {t : TE} (h : PE X.nox e t) : PE X e t := fun pins s σ H Q I hw =>
  wpAny_mono (h pins s σ H Q (I.wish _) hw) (fun _ _ ⟨v, H', I', r, q⟩ => ⟨v, H', I'.unwish, r, q⟩) fun _ _ z => False.elim z
theorem PT.nox {e : Expr} {t : TT} (h : PT X.nox e t) : PT X e t := fun pins s σ H Q I hw =>
  wpAny_mono (h pins s σ H Q (I.wish _) hw) (fun _ _ ⟨H', I', q⟩ => ⟨H', I'.unwish, q⟩) fun _ _ z => False.elim z
theorem PSs.nox {st : List Stmt} {t : TS} (h : PSs X.nox st t) : PSs X st t := fun pins s σ H D I hw =>
  wpAny_mono (h pins s σ H D (I.wish _) hw) (fun _ _ q => q.unwish) fun _ _ z => False.elim z
end
section
variable {X : Cx} {st : Stmt} {rest : List Stmt} {t u : TS} {e : Expr} {te : TE} {pos : Pos}
def tNext : TS := fun D σ H => D.nx σ H
def tSeq (t u : TS) : TS := fun D σ H => t { D with nx := u D } σ H
theorem pss_nil : PSs X [] tNext := fun _ _ σ H _ I h => wpAny_execs_nil ⟨σ, H, I, h⟩
theorem pss_cons (h1 : PS X st t) (h2 : PSs X rest u) : PSs X (st :: rest) (tSeq t u) := by
  intro pins s σ H D I h
  refine wpAny_execs_cons (thn (h1 pins s σ H { D with nx := u D } I h) fun f s1 q => ?_)
  cases f with
  | next =>
    obtain ⟨σ', H', I', q⟩ := q
    exact h2 pins s1 σ' H' D I' q
  | ret v => exact q
  | brk => exact q
  | cont => exact q
theorem pss_one (h1 : PS X st t) : PSs X [st] t := by
  intro pins s σ H D I h
  refine wpAny_execs_cons (thn (h1 pins s σ H D I h) fun f s1 q => ?_)
  cases f with
  | next => exact wpAny_execs_nil q
  | ret v => exact q
  | brk => exact q
  | cont => exact q
theorem Inv.quiet {pins : List (Addr × Obj)} {σ : St} {H : Hp} {s : Shared} (I : Inv X pins σ H s) : interactive X.env = false := by simp [interactive, I.ok.kind]
def tDrop (te : TE) : TS := fun D σ H => te σ H fun _ H1 => D.nx σ H1
theorem ps_expr (he : PE X e te) (hs : swapsWith e none pos.line X.env = pure false := by rfl) : PS X (.Expr e pos) (tDrop te) := by
  intro pins s σ H D I h
  exact wpAny_Expr_any (thn (he pins s σ H _ I h) fun v s1 ⟨x, H1, I1, r1, q1⟩ => ⟨σ, H1, I1, q1⟩) I.quiet hs
def tRet (te : TE) : TS := fun D σ H => te σ H D.rt
theorem ps_ret (he : PE X e te) : PS X (.Return (some e) pos) (tRet te) := by
  intro pins s σ H D I h
  exact wpAny_Return_some (thn (he pins s σ H _ I h) fun v s1 ⟨x, H1, I1, r1, q1⟩ => ⟨x, σ, H1, I1, r1, q1⟩)
def tIfS (c : TT) (t u : TS) : TS := fun D σ H => c σ H fun b H1 => if b = true then t D σ H1 else u D σ H1
theorem ps_if {c : Expr} {a b : List Stmt} {tc : TT} (hc : PT X c tc) (ha : PSs X a t) (hb : PSs X b u) : PS X (.If c a b pos) (tIfS tc t u) := by
  intro pins s σ H D I h
  refine wpAny_If (thn (hc pins s σ H _ I h) fun d s1 ⟨H1, I1, q1⟩ => ?_)
  cases d with
  | true => exact ha pins s1 σ H1 D I1 q1
  | false => exact hb pins s1 σ H1 D I1 q1
end
abbrev TG := V → St → Hp → (St → Hp → Prop) → Prop
abbrev TGs := List V → St → Hp → (St → Hp → Prop) → Prop
def PG (X : Cx) (target : Expr) (t : TG) : Prop :=
  ∀ (pins : List (Addr × Obj)) (s : Shared) (σ : St) (H : Hp) (v : V) (u : Value) (Q : St → Hp → Prop), Inv X pins σ H s → RelV v u → t v σ H Q →
    wpAny (model X.prog X.w) X.A (assign target X.env u) (fun _ s' => ∃ σ' H', Inv X pins σ' H' s' ∧ Q σ' H') X.xe s
def PGs (X : Cx) (ts : List Expr) (t : TGs) : Prop :=
  ∀ (pins : List (Addr × Obj)) (s : Shared) (σ : St) (H : Hp) (vs : List V) (us : List Value) (Q : St → Hp → Prop), Inv X pins σ H s → Vals vs us → t vs σ H Q →
    wpAny (model X.prog X.w) X.A (assignInOrder ((assignEach ts X.env).map (·.2)) us) (fun _ s' => ∃ σ' H', Inv X pins σ' H' s' ∧ Q σ' H') X.xe s
abbrev TIp := V → V → Hp → VK → Prop
def PIp (X : Cx) (op : Operator) (t : TIp) : Prop :=
  ∀ (pins : List (Addr × Obj)) (s : Shared) (σ : St) (H : Hp) (x y : V) (v u : Value) (Q : VK), Inv X pins σ H s → RelV x v → RelV y u → t x y H Q →
    wpAny (model X.prog X.w) X.A (inplaceOp op v u) (EP X pins σ Q) X.xe s
section
variable {X : Cx} {pos : Pos}
def gName (i : Nat) : TG := fun v σ H Q => Q (σ.set i (some v)) H
theorem pg_name {i : Nat} {x : Str} (hN : X.N.Nodup) (hi : X.N[i]? = some x) (hx : Loc X.env.scope x) (hf : X.fn x = true ∨ X.env.scope.names.lookup x = some .local := by first | exact .inl rfl | exact .inr rfl | assumption) : PG X (.Name x pos) (gName i) := by
  intro pins s σ H v u Q I r h
  exact wpAny_assign_Name (store_ok I hN hi hx r (fun s' I' => ⟨_, H, I', h⟩) hf)
def gNil : TGs := fun vs σ H Q => vs = [] ∧ Q σ H
def gCons (t : TG) (u : TGs) : TGs := fun vs σ H Q => ∃ v r, vs = v :: r ∧ t v σ H fun σ' H' => u r σ' H' Q
theorem pgs_nil : PGs X [] gNil := by
  intro pins s σ H vs us Q I r h
  obtain ⟨e, h⟩ := h
  subst e
  cases r
  exact assignInOrder_nil ⟨σ, H, I, h⟩
theorem pgs_cons {e : Expr} {es : List Expr} {t : TG} {u : TGs} (h1 : PG X e t) (h2 : PGs X es u)
    (hs : (assignEach (e :: es) X.env).map (·.2) = assign e X.env :: (assignEach es X.env).map (·.2) := by rfl) : PGs X (e :: es) (gCons t u) := by
  intro pins s σ H vs us Q I r h
  obtain ⟨v, vr, e1, h⟩ := h
  subst e1
  cases r with
  | cons r rr =>
    rw [hs]
    refine assignInOrder_cons (thn (h1 pins s σ H _ _ _ I r h) fun _ s1 ⟨σ1, H1, I1, q1⟩ => ?_)
    exact h2 pins s1 σ1 H1 _ _ Q I1 rr q1
def gTup (K : PySem.W.Frag) (n : Nat) (t : TGs) : TG := fun v σ H Q => ∃ a xs, v = .ref a ∧ SqT K H a xs ∧ xs.length = n ∧ t xs σ H Q
theorem pg_tup {es : List Expr} {k : Nat} {t : TGs} {n : Nat} (hc : X.calm = true) (h : PGs X es t)
    (hn : (assignEach es X.env).length = n := by rfl) (hst : (assignEach es X.env).findIdx? (·.1) = none := by rfl) : PG X (.Tuple es k pos) (gTup X.K n t) := by
  intro pins s σ H v u Q I r hw
  obtain ⟨a, xs, e1, hq, hl, hw⟩ := hw
  subst e1
  cases r
  obtain ⟨its, rv, ht, hz⟩ := I.tuple hq
  refine assign_Tuple_tuple (I.ok.hd hc) ht (by simp [hn, ← hl, rv.length]) hst fun h' hx => ?_
  have I1 : Inv X pins σ H { s with heap := h' } := I.kept (t' := s.toks) fun b o e => hx b o (Nat.ne_of_lt (Heap.lt_size e)) e
  exact h pins _ σ H xs _ Q I1 (by simpa using rv) hw
def tAsg (te : TE) (g : TG) : TS := fun D σ H => te σ H fun x H1 => g x σ H1 D.nx
theorem ps_set {i : Nat} {x : Str} {e : Expr} {te : TE} {pos' : Pos} (hN : X.N.Nodup) (hi : X.N[i]? = some x) (hx : Loc X.env.scope x) (he : PE X e te) (hs : swapsWith e (some (.Name x pos')) pos.line X.env = pure false := by rfl) (hf : X.fn x = true ∨ X.env.scope.names.lookup x = some .local := by first | exact .inl rfl | exact .inr rfl | assumption) :
    PS X (.Assign [.Name x pos'] e pos) (tAsg te (gName i)) := by
  intro pins s σ H D I h
  refine wpAny_Assign_Name (thn (he pins s σ H _ I h) fun v s1 ⟨y, H1, I1, r1, q1⟩ => ?_) hs
  exact store_ok I1 hN hi hx r1 (fun s2 I2 => ⟨_, H1, I2, q1⟩) hf
def tAug (i : Nat) (te : TE) (ti : TIp) : TS := fun D σ H => ∃ x, σ[i]? = some (some x) ∧ te σ H fun y H1 => ti x y H1 fun z H2 => D.nx (σ.set i (some z)) H2
theorem ps_aug {i : Nat} {x : Str} {e : Expr} {te : TE} {op : Operator} {ti : TIp} {pos' : Pos} (hN : X.N.Nodup) (hi : X.N[i]? = some x) (hx : Loc X.env.scope x) (he : PE X e te) (ho : PIp X op ti) (hf : X.fn x = true ∨ X.env.scope.names.lookup x = some .local := by first | exact .inl rfl | exact .inr rfl | assumption) :
    PS X (.AugAssign (.Name x pos') op e pos) (tAug i te ti) := by
  intro pins s σ H D I h
  obtain ⟨v, e1, h⟩ := h
  obtain ⟨m, hn, hl⟩ := I.loc
  have vis : Vis X.env.scope x := by rcases hx with k | k; exact .inl k; exact .inr (.inl k)
  obtain ⟨u, r, l⟩ := hl i x v hi e1 vis
  refine wpAny_AugAssign_Name ?_
  have go : wpAny (model X.prog X.w) X.A (eval e X.env) (fun w s₂ => wpAny (model X.prog X.w) X.A (inplaceOp op u w) (fun r s₃ => wpAny (model X.prog X.w) X.A (storeName X.env x r) (fun _ => SP X pins D .next) X.xe s₃) X.xe s₂) X.xe s := by
    refine thn (he pins s σ H _ I h) fun w s1 ⟨y, H1, I1, r1, q1⟩ => ?_
    refine thn (ho pins s1 σ H1 v y u w _ I1 r r1 q1) fun z s2 ⟨zv, H2, I2, r2, q2⟩ => ?_
    exact store_ok I2 hN hi hx r2 (fun s3 I3 => ⟨_, H2, I3, q2⟩) hf
  rcases l with ⟨hk, hm⟩ | ⟨hk, c, hc, hcell⟩
  · exact wpAny_loadName_local I.ok.kind hk hn hm go
  · rcases hk with hk | hk
    · exact wpAny_loadName_cell I.ok.kind hk hc hcell go
    · rcases hx with k | k
      · have : X.env.scope.names.lookup x = some .free := hk
        rw [k] at this; cases this
      · have : X.env.scope.names.lookup x = some .free := hk
        rw [k] at this; cases this
end
section
variable {X : Cx} {pos : Pos}
def tWhile (c : TT) (tb : TS) : TS := fun D σ H => ∃ W : Nat → St → Hp → Prop, (∃ m, W m σ H) ∧ ∀ m σ H, W m σ H →
  c σ H fun b H1 => if b = true then ∃ N : St → Hp → Prop, (∀ σ' H', N σ' H' → ∃ m', m' < m ∧ W m' σ' H') ∧ tb { D with nx := N, ct := N, bk := D.nx } σ H1 else D.nx σ H1
theorem ps_while {c : Expr} {body : List Stmt} {tc : TT} {tb : TS} (hp : PassesOwn (model X.prog X.w) X.A X.env X.xe) (hc : PT X c tc) (hb : PSs X body tb) : PS X (.While c body [] pos) (tWhile tc tb) := by
  intro pins s σ H D I h
  obtain ⟨W, ⟨m0, w0⟩, turn⟩ := h
  refine wpAny_While (codeAny_whileLoop (fun n s' => ∃ σ' H', Inv X pins σ' H' s' ∧ W n σ' H') ?_ m0 ⟨σ, H, I, w0⟩)
  rintro n s1 ⟨σ1, H1, I1, w1⟩
  refine wpAny_passesOwn hp (thn (hc pins s1 σ1 H1 _ I1 (turn n σ1 H1 w1)) fun b s2 ⟨H2, I2, q2⟩ => ?_)
  cases b with
  | true =>
    obtain ⟨N, hN, q2⟩ := q2
    rw [if_pos rfl]
    refine wpAny_passesOwn hp (thn (hb pins s2 σ1 H2 _ I2 q2) fun f s3 q3 => ?_)
    cases f with
    | next =>
      obtain ⟨σ3, H3, I3, n3⟩ := q3
      obtain ⟨m', hm, w3⟩ := hN σ3 H3 n3
      exact ⟨m', hm, σ3, H3, I3, w3⟩
    | cont =>
      obtain ⟨σ3, H3, I3, n3⟩ := q3
      obtain ⟨m', hm, w3⟩ := hN σ3 H3 n3
      exact ⟨m', hm, σ3, H3, I3, w3⟩
    | brk => exact q3
    | ret v => exact q3
  | false =>
    rw [if_neg Bool.false_ne_true]
    exact wpAny_execs_nil ⟨σ1, H2, I2, q2⟩
end
structure It where
  go : Nat → Hp → Prop
  yld : Nat → Hp → V → Hp → Prop
  stop : Nat → Hp → Prop
def FpOk (X : Cx) (pins : List (Addr × Obj)) (H : Hp) (b : Addr) : Prop :=
  H b = none ∧ b ≠ X.env.locals ∧ b ∉ X.fs ∧ (b ∈ X.ex ∨ X.s₀.heap.objs.size ≤ b) ∧ (∀ x c, X.env.cells.lookup x = some c → c ≠ b) ∧ ∀ p ∈ X.pn ++ pins, p.1 ≠ b
theorem Inv.fpOk {X : Cx} {pins : List (Addr × Obj)} {σ : St} {H H' : Hp} {s : Shared} {b : Addr} (I : Inv X pins σ H s) (hb : s.heap.objs.size ≤ b) (hn : H' b = none) : FpOk X pins H' b := by
  refine ⟨hn, Nat.ne_of_gt (Nat.lt_of_lt_of_le I.lt hb), I.nofs hb, .inr (Nat.le_trans I.sz hb), fun x c e z => ?_, fun p hp z => ?_⟩
  · obtain ⟨v, q⟩ := I.cell x c e
    exact absurd (Nat.lt_of_lt_of_le q.lt (by rw [z]; exact hb)) (Nat.lt_irrefl _)
  · exact absurd (Nat.lt_of_lt_of_le (Heap.lt_size (I.pin p hp).1) (by rw [z]; exact hb)) (Nat.lt_irrefl _)
structure Turn (P : Program) (w : World) (K : PySem.W.Frag) (tg : Expr) (J : It) (fp : List Addr) (it : Addr) (tn : Nat → Heap → Prop) : Prop where
  mem : it ∈ fp
  obj : ∀ i h, tn i h → ∀ b ∈ fp, ∃ o, h.get? b = some o ∧ ∀ v, o.data ≠ .cell v
  keep : ∀ i h h', tn i h → (∀ b ∈ fp, ∀ o, h.get? b = some o → h'.get? b = some o) → tn i h'
  item : ∀ (X : Cx), X.prog = P → X.w = w → X.K = K → X.calm = true → ∀ (i : Nat) (pins : List (Addr × Obj)) (s : Shared) (σ : St) (H : Hp) (E : Value → Shared → Prop), Inv X pins σ H s → (∀ b ∈ fp, FpOk X pins H b) → tn i s.heap → J.go i H →
    wpAny (model P w) X.A (pyNext (.ref it)) (fun r s1 => ∃ u, r = some u ∧
      wpAny (model P w) X.A (letOwnedTupleGo tg (.ref it) u) (fun _ s2 => ∃ x H', Inv X pins σ H' s2 ∧ RelV x u ∧ J.yld i H x H' ∧ tn (i + 1) s2.heap ∧ ∀ b ∈ fp, H' b = none) E s1) E s
  done : ∀ (X : Cx), X.prog = P → X.w = w → X.K = K → X.calm = true → ∀ (i : Nat) (pins : List (Addr × Obj)) (s : Shared) (σ : St) (H : Hp) (E : Value → Shared → Prop), Inv X pins σ H s → (∀ b ∈ fp, FpOk X pins H b) → tn i s.heap → J.stop i H →
    wpAny (model P w) X.A (pyNext (.ref it)) (fun r s1 => r = none ∧ Inv X pins σ H s1) E s
  self : ∀ (A : Around) (i : Nat) (s : Shared) (Q : Value → Shared → Prop) (E : Value → Shared → Prop), tn i s.heap → Q (.ref it) s → wpAny (model P w) A (pyIter (.ref it)) Q E s
abbrev TI := St → Hp → (It → Hp → Prop) → Prop
def PIE (X : Cx) (pins : List (Addr × Obj)) (σ : St) (tg : Expr) (R : It → Hp → Prop) (itv : Value) (s2 : Shared) : Prop :=
  ∃ (it : Addr) (fp : List Addr) (tn : Nat → Heap → Prop) (J : It) (H' : Hp), itv = .ref it ∧ Inv X pins σ H' s2 ∧ Turn X.prog X.w X.K tg J fp it tn ∧ tn 0 s2.heap ∧ (∀ b ∈ fp, FpOk X pins H' b) ∧ R J H'
def PI (X : Cx) (tg iter : Expr) (wi : TI) : Prop :=
  ∀ (pins : List (Addr × Obj)) (s : Shared) (σ : St) (H : Hp) (R : It → Hp → Prop), Inv X pins σ H s → wi σ H R →
    wpAny (model X.prog X.w) X.A (eval iter X.env) (fun v s1 => wpAny (model X.prog X.w) X.A (pyIter v) (PIE X pins σ tg R) X.xe s1) X.xe s
theorem go_of {M : Model} {A : Around} {E : Value → Shared → Prop} {s : Shared} {tg : Expr} {it : Addr} {u : Value} {o : Obj} {n : String} {vs : Array Value} {Q : Unit → Shared → Prop} (ho : s.heap.get? it = some o) (hc : o.cls = .type n) (hd : o.data = .fields vs)
    (hn : ["enumerate", "zip", "dict_itemiterator", "dict_reverseitemiterator", "odict_iterator", "itertools.zip_longest", "itertools.pairwise"].contains n = false) (hQ : Q () s) : wpAny M A (letOwnedTupleGo tg (.ref it) u) Q E s := by
  unfold letOwnedTupleGo
  cases tg <;> first
    | exact wpAny_pure hQ
    | (cases u <;> first
        | exact wpAny_pure hQ
        | (refine wpAny_bind (wpAny_load ho ?_)
           rw [hc, hd]
           show wpAny M A (if (["enumerate", "zip", "dict_itemiterator", "dict_reverseitemiterator", "odict_iterator", "itertools.zip_longest", "itertools.pairwise"].contains n && vs[0]? == some (rawInt _)) = true then _ else _) Q E s
           rw [if_neg (by intro h; rw [hn, Bool.false_and] at h; cases h)]
           exact wpAny_pure hQ))
def Itl (K : PySem.W.Frag) (a : Addr) : It :=
  ⟨fun i H => ∃ xs x, SqL K H a xs ∧ xs[i]? = some x, fun i H x H' => H' = H ∧ ∀ xs, SqL K H a xs → xs[i]? = some x, fun i H => ∃ xs, SqL K H a xs ∧ xs.length ≤ i⟩
def Itt (K : PySem.W.Frag) (a : Addr) : It :=
  ⟨fun i H => ∃ xs x, SqT K H a xs ∧ xs[i]? = some x, fun i H x H' => H' = H ∧ ∀ xs, SqT K H a xs → xs[i]? = some x, fun i H => ∃ xs, SqT K H a xs ∧ xs.length ≤ i⟩
def Itr (lo : Int) (n : Nat) : It := ⟨fun i _ => i < n, fun i H x H' => H' = H ∧ x = .int (lo + i), fun i _ => n ≤ i⟩
theorem turn_list {P : Program} {w : World} {K : PySem.W.Frag} {tg : Expr} (a it : Addr) : Turn P w K tg (Itl K a) [it] it (fun i h => h.IsListIter it a i) where
  mem := by simp
  obj := fun i h st b hb => by
    have e : b = it := by simpa using hb
    subst e
    obtain ⟨o, e, c, d⟩ := st
    exact ⟨o, e, fun v z => by rw [d] at z; cases z⟩
  keep := fun i h h' st k => st.at fun o e => k it (by simp) o e
  item := by
    intro X hP hw hK hc i pins s σ H E I hf st hg
    subst hP hw hK
    obtain ⟨xs, x, hq, hx⟩ := hg
    obtain ⟨its, rv, p, hz⟩ := I.list hq
    obtain ⟨u, hu, ru⟩ := rv.get hx
    obtain ⟨f0, f1, f2, f3, f4, f5⟩ := hf it (by simp)
    refine wpAny_pyNext_list_item st p.isList (x := u) (by simpa using hu) fun h' st' sb => ?_
    have I1 : Inv X pins σ H { s with heap := h' } := I.turned (t' := s.toks) (fun b o hb e => (sb.2 b hb).trans e) f0 f1 f3 f4 f5
    obtain ⟨o, e, c, d⟩ := id st'
    exact ⟨u, rfl, go_of (s := { s with heap := h' }) e c d (by decide) ⟨x, H, I1, ru, ⟨rfl, fun ys hy => by rw [I.list_inj hy hq]; exact hx⟩, st', fun b hb => (hf b hb).1⟩⟩
  done := by
    intro X hP hw hK hc i pins s σ H E I hf st hg
    subst hP hw hK
    obtain ⟨xs, hq, hx⟩ := hg
    obtain ⟨its, rv, p, hz⟩ := I.list hq
    obtain ⟨f0, f1, f2, f3, f4, f5⟩ := hf it (by simp)
    have hl := rv.length
    exact wpAny_pyNext_list_end (I.ok.hd hc) st p.isList (by simp; omega) fun h' eb => ⟨rfl, I.turned (t' := s.toks) (fun b o hb e => eb b o hb e) f0 f1 f3 f4 f5⟩
  self := fun _ _ _ _ _ st h => wpAny_pyIter_listiter st h
theorem turn_tuple {P : Program} {w : World} {K : PySem.W.Frag} {tg : Expr} (a it : Addr) : Turn P w K tg (Itt K a) [it] it (fun i h => h.IsTupleIter it a i) where
  mem := by simp
  obj := fun i h st b hb => by
    have e : b = it := by simpa using hb
    subst e
    obtain ⟨o, e, c, d⟩ := st
    exact ⟨o, e, fun v z => by rw [d] at z; cases z⟩
  keep := fun i h h' st k => st.at fun o e => k it (by simp) o e
  item := by
    intro X hP hw hK hc i pins s σ H E I hf st hg
    subst hP hw hK
    obtain ⟨xs, x, hq, hx⟩ := hg
    obtain ⟨its, rv, p, hz⟩ := I.tuple hq
    obtain ⟨u, hu, ru⟩ := rv.get hx
    obtain ⟨f0, f1, f2, f3, f4, f5⟩ := hf it (by simp)
    refine wpAny_pyNext_tuple_item st (show s.heap.IsTuple a its.toArray from p) (x := u) (by simpa using hu) fun h' st' sb => ?_
    have I1 : Inv X pins σ H { s with heap := h' } := I.turned (t' := s.toks) (fun b o hb e => (sb.2 b hb).trans e) f0 f1 f3 f4 f5
    obtain ⟨o, e, c, d⟩ := id st'
    exact ⟨u, rfl, go_of (s := { s with heap := h' }) e c d (by decide) ⟨x, H, I1, ru, ⟨rfl, fun ys hy => by rw [I.tuple_inj hy hq]; exact hx⟩, st', fun b hb => (hf b hb).1⟩⟩
  done := by
    intro X hP hw hK hc i pins s σ H E I hf st hg
    subst hP hw hK
    obtain ⟨xs, hq, hx⟩ := hg
    obtain ⟨its, rv, p, hz⟩ := I.tuple hq
    obtain ⟨f0, f1, f2, f3, f4, f5⟩ := hf it (by simp)
    have hl := rv.length
    exact wpAny_pyNext_tuple_end (I.ok.hd hc) st (show s.heap.IsTuple a its.toArray from p) (by simp; omega) fun h' eb => ⟨rfl, I.turned (t' := s.toks) (fun b o hb e => eb b o hb e) f0 f1 f3 f4 f5⟩
  self := fun _ _ _ _ _ st h => wpAny_pyIter_tupleiter st h
theorem turn_range {P : Program} {w : World} {K : PySem.W.Frag} {tg : Expr} (it : Addr) (lo : Int) (n : Nat) : Turn P w K tg (Itr lo n) [it] it (fun i h => IsRangeIter h it (lo + (i : Nat) * 1) ((n : Int) - (i : Nat)) 1) where
  mem := by simp
  obj := fun i h st b hb => by
    have e : b = it := by simpa using hb
    subst e
    exact ⟨_, st, fun v z => by
      have z' : Data.fields _ = Data.cell v := z
      cases z'⟩
  keep := fun i h h' st k => k it (by simp) _ st
  item := by
    intro X hP hw hK hc i pins s σ H E I hf st hg
    subst hP hw hK
    obtain ⟨f0, f1, f2, f3, f4, f5⟩ := hf it (by simp)
    have W := Walks.range (prog := X.prog) (w := X.w) (I.ok.hd hc) it lo 1 n
    refine wpAny_with_toks (Nat.le_refl s.toks) (W.item i s _ _ hg st fun v h' tk hv st' kk htk => ?_)
    obtain ⟨t, rfl⟩ := hv
    have I1 : Inv X pins σ H { s with heap := h', toks := tk } := I.turned (fun b o hb e => kk b o (by simpa using hb) e) f0 f1 f3 f4 f5
    refine ⟨_, rfl, go_of (s := { s with heap := h', toks := tk }) (n := "range_iterator") st' rfl rfl (by decide) ⟨.int (lo + i), H, I1, ⟨t, ?_⟩, ⟨rfl, rfl⟩, st', fun b hb => (hf b hb).1⟩⟩
    rw [Int.mul_one]
  done := by
    intro X hP hw hK hc i pins s σ H E I hf st hg
    subst hP hw hK
    obtain ⟨f0, f1, f2, f3, f4, f5⟩ := hf it (by simp)
    exact wpAny_pyNext_range_end (I.ok.hd hc) st (by have : n ≤ i := hg; omega) fun h' eb => ⟨rfl, I.turned (t' := s.toks) (fun b o hb e => eb b o hb e) f0 f1 f3 f4 f5⟩
  self := fun _ _ _ _ _ st h => wpAny_pyIter_rangeiter st h
end L2
namespace L2
open PySem PySem.Spec PyProof.Rows
section
variable {X : Cx} {tg : Expr}
def iList (K : PySem.W.Frag) (tl : TE) : TI := fun σ H R => tl σ H fun x H1 => ∃ a, x = .ref a ∧ (∃ xs, SqL K H1 a xs) ∧ R (Itl K a) H1
def iTup (K : PySem.W.Frag) (tl : TE) : TI := fun σ H R => tl σ H fun x H1 => ∃ a, x = .ref a ∧ (∃ xs, SqT K H1 a xs) ∧ R (Itt K a) H1
theorem pi_list {l : Expr} {tl : TE} (hl : PE X l tl) : PI X tg l (iList X.K tl) := by
  intro pins s σ H R I h
  refine thn (hl pins s σ H _ I h) fun v s1 ⟨x, H1, I1, r1, q1⟩ => ?_
  obtain ⟨a, e, ⟨xs, hq⟩, q⟩ := q1
  subst e
  cases r1
  obtain ⟨its, rv, p, hz⟩ := I1.list hq
  refine wpAny_pyIter_list p.isList ?_
  refine ⟨s1.heap.objs.size, [s1.heap.objs.size], _, _, H1, rfl, I1.kept (t' := s1.toks) fun b o e => Heap.get?_push_of_some _ e, turn_list a _, ⟨_, Heap.get?_push_size _ rfl, rfl, rfl⟩, fun b hb => ?_, q⟩
  have e : b = s1.heap.objs.size := by simpa using hb
  subst e
  exact I1.fpOk (Nat.le_refl _) (I1.hok.fresh (Nat.le_refl _))
theorem pi_tup {l : Expr} {tl : TE} (hl : PE X l tl) : PI X tg l (iTup X.K tl) := by
  intro pins s σ H R I h
  refine thn (hl pins s σ H _ I h) fun v s1 ⟨x, H1, I1, r1, q1⟩ => ?_
  obtain ⟨a, e, ⟨xs, hq⟩, q⟩ := q1
  subst e
  cases r1
  obtain ⟨its, rv, p, hz⟩ := I1.tuple hq
  refine wpAny_pyIter_tuple (show s1.heap.IsTuple a its.toArray from p) ?_
  refine ⟨s1.heap.objs.size, [s1.heap.objs.size], _, _, H1, rfl, I1.kept (t' := s1.toks) fun b o e => Heap.get?_push_of_some _ e, turn_tuple a _, ⟨_, Heap.get?_push_size _ rfl, rfl, rfl⟩, fun b hb => ?_, q⟩
  have e : b = s1.heap.objs.size := by simpa using hb
  subst e
  exact I1.fpOk (Nat.le_refl _) (I1.hok.fresh (Nat.le_refl _))
theorem range_it {pins : List (Addr × Obj)} {σ : St} {H : Hp} {s : Shared} {R : It → Hp → Prop} {E : Value → Shared → Prop} {lo hi : Int} {t u v : Tok} {tk : Nat} (htk : s.toks ≤ tk) (I : Inv X pins σ H s) (h1 : -(2 ^ 62) ≤ lo) (h2 : lo < 2 ^ 62) (h3 : -(2 ^ 62) ≤ hi) (h4 : hi < 2 ^ 62)
    (q : R (Itr lo (hi - lo).toNat) H) : wpAny (model X.prog X.w) X.A (pyIter (.ref s.heap.objs.size)) (PIE X pins σ tg R) E { s with heap := s.heap.push { cls := .type "range", data := .fields #[.int lo t, .int hi u, .int 1 v] }, toks := tk } := by
  refine wpAny_pyIter_range (IsRange.new ..) (small_one h1 h2 h3 h4) ?_
  have I1 : Inv X pins σ H { s with heap := s.heap.push { cls := .type "range", data := .fields #[.int lo t, .int hi u, .int 1 v] }, toks := tk } := I.kept fun b o e => Heap.get?_push_of_some _ e
  refine ⟨(s.heap.push { cls := .type "range", data := .fields #[.int lo t, .int hi u, .int 1 v] }).objs.size, [(s.heap.push { cls := .type "range", data := .fields #[.int lo t, .int hi u, .int 1 v] }).objs.size], _, _, H, rfl,
    I1.kept (t' := tk) fun b o e => Heap.get?_push_of_some _ e, turn_range _ lo (hi - lo).toNat, ?_, fun b hb => ?_, q⟩
  · have e1 : lo + ((0 : Nat) : Int) * 1 = lo := by simp
    have e2 : (((hi - lo).toNat : Nat) : Int) - ((0 : Nat) : Int) = Builtin.Range.rangeSize lo hi 1 := by rw [rangeSize_one]; split <;> omega
    show IsRangeIter _ _ (lo + ((0 : Nat) : Int) * 1) ((((hi - lo).toNat : Nat) : Int) - ((0 : Nat) : Int)) 1
    rw [e1, e2]
    exact Heap.get?_push_size _ rfl
  · have e : b = (s.heap.push { cls := .type "range", data := .fields #[.int lo t, .int hi u, .int 1 v] }).objs.size := by simpa using hb
    subst e
    exact I1.fpOk (Nat.le_refl _) (I1.hok.fresh (Nat.le_refl _))
def iRng1 (ta : TA) : TI := fun σ H R => ta σ H fun vs H1 => ∃ j : Int, vs = [.int j] ∧ -(2 ^ 62) ≤ j ∧ j < 2 ^ 62 ∧ R (Itr 0 j.toNat) H1
theorem pi_range1 {a : Expr} {ta : TA} {p pos : Pos} (hg : Gl X "range") (hm : X.mg "range" = none) (ha : PA X [a] ta) (hs : starEach [a] X.env = [(false, eval a X.env)] := by rfl) : PI X tg (.Call (.Name "range" p) [a] [] pos) (iRng1 ta) := by
  intro pins s σ H R I h
  refine Call_ (ld_blt I hg hm boot_range (PyProof.Rows.callWith_type1 (thn (ha pos pins s σ H _ I h) fun us s1 ⟨vs, H1, I1, r1, q1⟩ => ?_) hs rfl))
  obtain ⟨j, e, q1, q2, q⟩ := q1
  subst e
  cases r1 with
  | cons r rr =>
    cases rr
    obtain ⟨t, rfl⟩ := r
    exact call_range_1 (range_it (by first | exact Nat.le_refl _ | exact Nat.le_succ _ | assumption | omega) I1 (by omega) (by omega) q1 q2 (by simpa using q))
def tFor (wi : TI) (g : TG) (tb : TS) : TS := fun D σ H => wi σ H fun J H1 => ∃ W : Nat → Nat → St → Hp → Prop, (∃ m, W 0 m σ H1) ∧ ∀ i m σ H, W i m σ H →
  (J.stop i H ∧ D.nx σ H) ∨ (J.go i H ∧ ∃ N : St → Hp → Prop, (∀ σ' H', N σ' H' → ∃ m', m' < m ∧ W (i + 1) m' σ' H') ∧ ∀ x H', J.yld i H x H' → g x σ H' fun σ2 H2 => tb { D with nx := N, ct := N, bk := D.nx } σ2 H2)
def pinsAt (fp : List Addr) (h : Heap) : List (Addr × Obj) := fp.filterMap fun b => (h.get? b).map fun o => (b, o)
theorem mem_pinsAt {fp : List Addr} {h : Heap} {b : Addr} {o : Obj} (hb : b ∈ fp) (e : h.get? b = some o) : (b, o) ∈ pinsAt fp h := List.mem_filterMap.mpr ⟨b, hb, by rw [e]; rfl⟩
theorem of_pinsAt {fp : List Addr} {h : Heap} {p : Addr × Obj} (hp : p ∈ pinsAt fp h) : p.1 ∈ fp ∧ h.get? p.1 = some p.2 := by
  obtain ⟨b, hb, e⟩ := List.mem_filterMap.mp hp
  cases q : h.get? b with
  | none => rw [q] at e; cases e
  | some o =>
    rw [q] at e
    have e' : (b, o) = p := Option.some.inj e
    subst e'
    exact ⟨hb, q⟩
theorem Inv.pinned {pins : List (Addr × Obj)} {σ : St} {H : Hp} {s : Shared} {fp : List Addr} (I : Inv X pins σ H s) (hf : ∀ b ∈ fp, FpOk X pins H b) (ho : ∀ b ∈ fp, ∃ o, s.heap.get? b = some o ∧ ∀ v, o.data ≠ .cell v) : Inv X (pins ++ pinsAt fp s.heap) σ H s :=
  I.pins_of fun p hp => (List.mem_append.mp hp).elim (fun z => I.pin p (List.mem_append_right _ z)) fun z => by
    obtain ⟨hb, e⟩ := of_pinsAt z
    obtain ⟨f0, f1, f2, _⟩ := hf p.1 hb
    obtain ⟨o, e', d⟩ := ho p.1 hb
    rw [e] at e'; cases e'
    exact ⟨e, f0, f1, f2, d⟩
theorem Inv.unpinned {pins pl : List (Addr × Obj)} {σ : St} {H : Hp} {s : Shared} (I : Inv X (pins ++ pl) σ H s) : Inv X pins σ H s := I.pins_of fun p hp => I.pin p (List.mem_append_right _ (List.mem_append_left _ hp))
theorem ps_for {iter : Expr} {body : List Stmt} {wi : TI} {g : TG} {tb : TS} {pos : Pos} (hp : PassesOwn (model X.prog X.w) X.A X.env X.xe) (hc : X.calm = true) (hi : PI X tg iter wi) (hg : PG X tg g) (hb : PSs X body tb)
    (hs : ∀ x, foldedSetIterable iter X.env x = pure x := by intro _; rfl) : PS X (.For tg iter body [] pos) (tFor wi g tb) := by
  intro pins s σ H D I h
  refine wpAny_For (thn (hi pins s σ H _ I h) fun v s1 h1 => thn h1 fun itv s2 h2 => ?_) hs
  obtain ⟨it, fp, tn, J, H2, e, I2, T, st2, f2, W, ⟨m0, w0⟩, turn⟩ := h2
  subst e
  have stat : ∀ {H' : Hp}, (∀ b ∈ fp, H' b = none) → ∀ b ∈ fp, FpOk X pins H' b := fun hn b hb => ⟨hn b hb, (f2 b hb).2⟩
  refine codeAny_forLoop_any (fun n s' => ∃ i σ' H', Inv X pins σ' H' s' ∧ tn i s'.heap ∧ (∀ b ∈ fp, H' b = none) ∧ W i n σ' H') ?_ m0 ⟨0, σ, H2, I2, st2, fun b hb => (f2 b hb).1, w0⟩
  rintro n s3 ⟨i, σ3, H3, I3, st3, fr3, w3⟩
  rcases turn i n σ3 H3 w3 with ⟨stop, qn⟩ | ⟨go, N, hN, step⟩
  · refine wpAny_passesOwn hp (thn (T.done X rfl rfl rfl hc i pins s3 σ3 H3 X.xe I3 (stat fr3) st3 stop) fun r s4 ⟨hr, I4⟩ => ?_)
    subst hr
    exact wpAny_execs_nil ⟨σ3, H3, I4, qn⟩
  · refine wpAny_passesOwn hp (thn (T.item X rfl rfl rfl hc i pins s3 σ3 H3 X.xe I3 (stat fr3) st3 go) fun r s4 ⟨u, hr, h4⟩ => ?_)
    subst hr
    refine wpAny_passesOwn hp (thn h4 fun _ s5 ⟨x, H5, I5, r5, y5, st5, fr5⟩ => ?_)
    have I5' := I5.pinned (stat fr5) (T.obj _ _ st5)
    refine wpAny_passesOwn hp (thn (hg _ s5 σ3 H5 x u _ I5' r5 (step x H5 y5)) fun _ s6 ⟨σ6, H6, I6, q6⟩ => ?_)
    refine wpAny_passesOwn hp (thn (hb _ s6 σ6 H6 _ I6 q6) fun f s7 q7 => ?_)
    have again : ∀ {σ7 : St} {H7 : Hp}, Inv X (pins ++ pinsAt fp s5.heap) σ7 H7 s7 → N σ7 H7 → ∃ m, m < n ∧ ∃ i σ' H', Inv X pins σ' H' s7 ∧ tn i s7.heap ∧ (∀ b ∈ fp, H' b = none) ∧ W i m σ' H' := fun {σ7 H7} I7 n7 => by
      obtain ⟨m', hm, w7⟩ := hN σ7 H7 n7
      refine ⟨m', hm, i + 1, σ7, H7, I7.unpinned, T.keep _ _ _ st5 fun b hb o e => (I7.pin (b, o) (List.mem_append_right _ (List.mem_append_right _ (mem_pinsAt hb e)))).1, fun b hb => ?_, w7⟩
      obtain ⟨o, e, d⟩ := T.obj _ _ st5 b hb
      exact (I7.pin (b, o) (List.mem_append_right _ (List.mem_append_right _ (mem_pinsAt hb e)))).2.1
    cases f with
    | next => obtain ⟨σ7, H7, I7, n7⟩ := q7; exact again I7 n7
    | cont => obtain ⟨σ7, H7, I7, n7⟩ := q7; exact again I7 n7
    | brk => obtain ⟨σ7, H7, I7, q7⟩ := q7; exact ⟨σ7, H7, I7.unpinned, q7⟩
    | ret v => obtain ⟨x7, σ7, H7, I7, r7, q7⟩ := q7; exact ⟨x7, σ7, H7, I7.unpinned, r7, q7⟩
end
theorem for_list {K : PySem.W.Frag} {a : Addr} {xs : List V} {g : TG} {tb : TS} {D : Ends} {σ : St} {H : Hp} (Pv : Nat → St → Hp → Prop) (h0 : Pv 0 σ H) (hl : ∀ i σ H, i ≤ xs.length → Pv i σ H → SqL K H a xs)
    (hs : ∀ i x σ H, xs[i]? = some x → Pv i σ H → g x σ H fun σ2 H2 => tb { D with nx := Pv (i + 1), ct := Pv (i + 1), bk := D.nx } σ2 H2) (hd : ∀ σ H, Pv xs.length σ H → D.nx σ H) :
    ∃ W : Nat → Nat → St → Hp → Prop, (∃ m, W 0 m σ H) ∧ ∀ i m σ H, W i m σ H →
      ((Itl K a).stop i H ∧ D.nx σ H) ∨ ((Itl K a).go i H ∧ ∃ N : St → Hp → Prop, (∀ σ' H', N σ' H' → ∃ m', m' < m ∧ W (i + 1) m' σ' H') ∧ ∀ x H', (Itl K a).yld i H x H' → g x σ H' fun σ2 H2 => tb { D with nx := N, ct := N, bk := D.nx } σ2 H2) := by
  refine ⟨fun i m σ H => m = xs.length - i ∧ i ≤ xs.length ∧ Pv i σ H, ⟨xs.length, by simp, Nat.zero_le _, h0⟩, ?_⟩
  rintro i m σ H ⟨rfl, hi, p⟩
  have q := hl i σ H hi p
  by_cases hlt : i < xs.length
  · refine .inr ⟨⟨xs, xs[i], q, by simp [hlt]⟩, Pv (i + 1), fun σ' H' p' => ⟨xs.length - (i + 1), by omega, rfl, hlt, p'⟩, fun x H' y => ?_⟩
    obtain ⟨e, y⟩ := y
    subst e
    exact hs i x σ _ (y xs q) p
  · have e : i = xs.length := by omega
    subst e
    exact .inl ⟨⟨xs, q, Nat.le_refl _⟩, hd σ H p⟩
theorem for_tup {K : PySem.W.Frag} {a : Addr} {xs : List V} {g : TG} {tb : TS} {D : Ends} {σ : St} {H : Hp} (Pv : Nat → St → Hp → Prop) (h0 : Pv 0 σ H) (hl : ∀ i σ H, i ≤ xs.length → Pv i σ H → SqT K H a xs)
    (hs : ∀ i x σ H, xs[i]? = some x → Pv i σ H → g x σ H fun σ2 H2 => tb { D with nx := Pv (i + 1), ct := Pv (i + 1), bk := D.nx } σ2 H2) (hd : ∀ σ H, Pv xs.length σ H → D.nx σ H) :
    ∃ W : Nat → Nat → St → Hp → Prop, (∃ m, W 0 m σ H) ∧ ∀ i m σ H, W i m σ H →
      ((Itt K a).stop i H ∧ D.nx σ H) ∨ ((Itt K a).go i H ∧ ∃ N : St → Hp → Prop, (∀ σ' H', N σ' H' → ∃ m', m' < m ∧ W (i + 1) m' σ' H') ∧ ∀ x H', (Itt K a).yld i H x H' → g x σ H' fun σ2 H2 => tb { D with nx := N, ct := N, bk := D.nx } σ2 H2) := by
  refine ⟨fun i m σ H => m = xs.length - i ∧ i ≤ xs.length ∧ Pv i σ H, ⟨xs.length, by simp, Nat.zero_le _, h0⟩, ?_⟩
  rintro i m σ H ⟨rfl, hi, p⟩
  have q := hl i σ H hi p
  by_cases hlt : i < xs.length
  · refine .inr ⟨⟨xs, xs[i], q, by simp [hlt]⟩, Pv (i + 1), fun σ' H' p' => ⟨xs.length - (i + 1), by omega, rfl, hlt, p'⟩, fun x H' y => ?_⟩
    obtain ⟨e, y⟩ := y
    subst e
    exact hs i x σ _ (y xs q) p
  · have e : i = xs.length := by omega
    subst e
    exact .inl ⟨⟨xs, q, Nat.le_refl _⟩, hd σ H p⟩
theorem for_range {lo : Int} {n : Nat} {g : TG} {tb : TS} {D : Ends} {σ : St} {H : Hp} (Pv : Nat → St → Hp → Prop) (h0 : Pv 0 σ H)
    (hs : ∀ i σ H, i < n → Pv i σ H → g (.int (lo + i)) σ H fun σ2 H2 => tb { D with nx := Pv (i + 1), ct := Pv (i + 1), bk := D.nx } σ2 H2) (hd : ∀ σ H, Pv n σ H → D.nx σ H) :
    ∃ W : Nat → Nat → St → Hp → Prop, (∃ m, W 0 m σ H) ∧ ∀ i m σ H, W i m σ H →
      ((Itr lo n).stop i H ∧ D.nx σ H) ∨ ((Itr lo n).go i H ∧ ∃ N : St → Hp → Prop, (∀ σ' H', N σ' H' → ∃ m', m' < m ∧ W (i + 1) m' σ' H') ∧ ∀ x H', (Itr lo n).yld i H x H' → g x σ H' fun σ2 H2 => tb { D with nx := N, ct := N, bk := D.nx } σ2 H2) := by
  refine ⟨fun i m σ H => m = n - i ∧ i ≤ n ∧ Pv i σ H, ⟨n, by simp, Nat.zero_le _, h0⟩, ?_⟩
  rintro i m σ H ⟨rfl, hi, p⟩
  by_cases hlt : i < n
  · refine .inr ⟨hlt, Pv (i + 1), fun σ' H' p' => ⟨n - (i + 1), by omega, rfl, hlt, p'⟩, fun x H' y => ?_⟩
    obtain ⟨e, y⟩ := y
    subst e y
    exact hs i σ _ hlt p
  · have e : i = n := by omega
    subst e
    exact .inl ⟨Nat.le_refl _, hd σ H p⟩
theorem while_by {c : TT} {tb : TS} {D : Ends} {σ : St} {H : Hp} (Pv : St → Hp → Prop) (μ : St → Hp → Nat) (h0 : Pv σ H)
    (hs : ∀ σ H, Pv σ H → c σ H fun b H1 => if b = true then tb { D with nx := fun σ' H' => Pv σ' H' ∧ μ σ' H' < μ σ H, ct := fun σ' H' => Pv σ' H' ∧ μ σ' H' < μ σ H, bk := D.nx } σ H1 else D.nx σ H1)
    (mono : ∀ σ H Q Q', (∀ b H1, Q b H1 → Q' b H1) → c σ H Q → c σ H Q') : tWhile c tb D σ H := by
  refine ⟨fun m σ H => m = μ σ H ∧ Pv σ H, ⟨_, rfl, h0⟩, ?_⟩
  rintro m σ H ⟨rfl, p⟩
  refine mono σ H _ _ (fun b H1 q => ?_) (hs σ H p)
  cases b with
  | true => exact ⟨_, fun σ' H' ⟨p', l⟩ => ⟨_, l, rfl, p'⟩, q⟩
  | false => exact q
end L2
namespace L2
open PySem PySem.Spec PyProof.Rows
abbrev R2 := V → V → Hp → VK → Prop
def OpR (X : Cx) (f : Value → Value → Sem Value) (r : R2) : Prop :=
  ∀ (pins : List (Addr × Obj)) (s : Shared) (σ : St) (H : Hp) (x y : V) (v u : Value) (Q : VK), Inv X pins σ H s → RelV x v → RelV y u → r x y H Q →
    wpAny (model X.prog X.w) X.A (f v u) (EP X pins σ Q) X.xe s
def CallR (X : Cx) (f : Value) (r : List V → Hp → VK → Prop) : Prop :=
  ∀ (pins : List (Addr × Obj)) (s : Shared) (σ : St) (H : Hp) (xs : List V) (us : List Value) (Q : VK), Inv X pins σ H s → Vals xs us → r xs H Q →
    wpAny (model X.prog X.w) X.A (call f us) (EP X pins σ Q) X.xe s
def tOp (r : R2) (ta tb : TE) : TE := fun σ H Q => ta σ H fun x H1 => tb σ H1 fun y H2 => r x y H2 Q
def rI (C : Int → Int → Prop) (g : Int → Int → V) : R2 := fun x y H Q => ∃ i j, x = .int i ∧ y = .int j ∧ C i j ∧ Q (g i j) H
def rI0 (g : Int → Int → V) : R2 := fun x y H Q => ∃ i j, x = .int i ∧ y = .int j ∧ Q (g i j) H
section
variable {X : Cx} {a b c : Expr} {ta tb tc : TE} {pos : Pos}
theorem binT (ha : PE X a ta) (hb : PE X b tb) {pins : List (Addr × Obj)} {s : Shared} {σ : St} {H : Hp} {R : V → V → Hp → Prop} (I : Inv X pins σ H s)
    (h : ta σ H fun x H1 => tb σ H1 fun y H2 => R x y H2) {Q : Value → Shared → Prop} {f : Value → Value → Sem Value}
    (hf : ∀ v u s2 x y H2, Inv X pins σ H2 s2 → RelV x v → RelV y u → R x y H2 → wpAny (model X.prog X.w) X.A (f v u) Q X.xe s2) :
    wpAny (model X.prog X.w) X.A (eval a X.env) (fun v s₁ => wpAny (model X.prog X.w) X.A (eval b X.env) (fun u s₂ => wpAny (model X.prog X.w) X.A (f v u) Q X.xe s₂) X.xe s₁) X.xe s := by
  refine thn (ha pins s σ H _ I h) fun v s1 ⟨x, H1, I1, r1, q1⟩ => ?_
  refine thn (hb pins s1 σ H1 _ I1 q1) fun u s2 ⟨y, H2, I2, r2, q2⟩ => ?_
  exact hf v u s2 x y H2 I2 r1 r2 q2
theorem pe_op {op : Operator} {r : R2} (ho : OpR X (binaryOp op) r) (ha : PE X a ta) (hb : PE X b tb) : PE X (.BinOp a op b pos) (tOp r ta tb) := by
  intro pins s σ H Q I h
  exact wpAny_BinOp (binT ha hb I h fun v u s2 x y H2 I2 rx ry q => ho pins s2 σ H2 x y v u Q I2 rx ry q)
theorem opI {f : Value → Value → Sem Value} {C : Int → Int → Prop} {g : Int → Int → Int}
    (rule : ∀ (i j : Int) (t u : Tok) (s : Shared) (Q : Value → Shared → Prop) (E : Value → Shared → Prop), C i j → Q (.int (g i j) s.toks) { s with toks := s.toks + 1 } → wpAny (model X.prog X.w) X.A (f (.int i t) (.int j u)) Q E s) :
    OpR X f (rI C fun i j => .int (g i j)) := by
  intro pins s σ H x y v u Q I rx ry h
  obtain ⟨i, j, rfl, rfl, hc, q⟩ := h
  obtain ⟨t, rfl⟩ := rx
  obtain ⟨t', rfl⟩ := ry
  exact rule i j t t' s _ _ hc ⟨.int (g i j), H, I.tok _, ⟨_, rfl⟩, q⟩
theorem opI0 {f : Value → Value → Sem Value} {g : Int → Int → Int}
    (rule : ∀ (i j : Int) (t u : Tok) (s : Shared) (Q : Value → Shared → Prop) (E : Value → Shared → Prop), Q (.int (g i j) s.toks) { s with toks := s.toks + 1 } → wpAny (model X.prog X.w) X.A (f (.int i t) (.int j u)) Q E s) :
    OpR X f (rI0 fun i j => .int (g i j)) := by
  intro pins s σ H x y v u Q I rx ry h
  obtain ⟨i, j, rfl, rfl, q⟩ := h
  obtain ⟨t, rfl⟩ := rx
  obtain ⟨t', rfl⟩ := ry
  exact rule i j t t' s _ _ ⟨.int (g i j), H, I.tok _, ⟨_, rfl⟩, q⟩
theorem opB0 {f : Value → Value → Sem Value} {g : Int → Int → Bool}
    (rule : ∀ (i j : Int) (t u : Tok) (s : Shared) (Q : Value → Shared → Prop) (E : Value → Shared → Prop), Q (.bool (g i j)) s → wpAny (model X.prog X.w) X.A (f (.int i t) (.int j u)) Q E s) :
    OpR X f (rI0 fun i j => .bl (g i j)) := by
  intro pins s σ H x y v u Q I rx ry h
  obtain ⟨i, j, rfl, rfl, q⟩ := h
  obtain ⟨t, rfl⟩ := rx
  obtain ⟨t', rfl⟩ := ry
  exact rule i j t t' s _ _ ⟨.bl (g i j), H, I, rfl, q⟩
def CMul (i j : Int) : Prop := (-(2 ^ 64) < i ∧ i < 2 ^ 64) ∨ (-(2 ^ 64) < j ∧ j < 2 ^ 64)
theorem CMul.ok {i j : Int} (h : CMul i j) : IntMulOk i j := by
  rcases h with ⟨h1, h2⟩ | ⟨h1, h2⟩
  · exact .of_left (intBits_le_64 h1 h2)
  · exact .of_right (intBits_le_64 h1 h2)
theorem op_add : OpR X (binaryOp .Add) (rI0 fun i j => .int (i + j)) := opI0 fun _ _ _ _ _ _ _ q => add_int q
theorem op_sub : OpR X (binaryOp .Sub) (rI0 fun i j => .int (i - j)) := opI0 fun _ _ _ _ _ _ _ q => sub_int q
theorem op_mul : OpR X (binaryOp .Mult) (rI CMul fun i j => .int (i * j)) := opI fun _ _ _ _ _ _ _ hc q => mul_int q hc.ok
theorem op_mod : OpR X (binaryOp .Mod) (rI (fun _ j => 0 < j) fun i j => .int (i % j)) := opI fun i j _ _ _ _ _ hc q => by
  have h1 : (0 : Int) < j := hc
  exact mod_int' (by omega) (by rw [Int.fmod_eq_emod_of_nonneg i (by omega)]; exact q)
end
def scal : V → V → Bool
  | .non, .non => true | .non, .int _ => true | .int _, .non => true | .non, .bl _ => true | .bl _, .non => true | .non, .str _ => true | .str _, .non => true
  | .int _, .int _ => true | .bl _, .bl _ => true | .str _, .str _ => true | .byt _, .byt _ => true
  | .int _, .str _ => true | .str _, .int _ => true | .bl _, .str _ => true | .str _, .bl _ => true
  | _, _ => false
def rEq : R2 := fun x y H Q => scal x y = true ∧ Q (.bl (decide (x = y))) H
def rNe : R2 := fun x y H Q => scal x y = true ∧ Q (.bl (!decide (x = y))) H
theorem dec_int {i j : Int} : decide (V.int i = V.int j) = (i == j) := by
  rw [Bool.eq_iff_iff]
  simp
theorem dec_bl {i j : Bool} : decide (V.bl i = V.bl j) = (i == j) := by
  rw [Bool.eq_iff_iff]
  simp
theorem dec_str {i j : Str} : decide (V.str i = V.str j) = (i == j) := by
  rw [Bool.eq_iff_iff]
  simp
theorem dec_byt {i j : Array UInt8} : decide (V.byt i = V.byt j) = (i.toList == j.toList) := by
  rw [Bool.eq_iff_iff]
  cases i
  cases j
  simp
section
variable {X : Cx} {a b c : Expr} {ta tb tc : TE} {pos : Pos}
theorem fin_bl {pins : List (Addr × Obj)} {σ : St} {H : Hp} {s : Shared} {Q : VK} {k k' : Bool} (I : Inv X pins σ H s) (q : Q (.bl k) H) (e : k = k') : EP X pins σ Q (.bool k') s := by
  subst e
  exact ⟨.bl k, H, I, rfl, q⟩
theorem op_eq : OpR X (compareOp .Eq) rEq := by
  intro pins s σ H x y v u Q I rx ry h
  obtain ⟨hs, q⟩ := h
  cases x with
  | non =>
    cases rx
    cases y with
    | non => cases ry; exact PySem.EqNone.eq_none_none (fin_bl I q (by simp))
    | bl j => cases ry; exact PySem.EqNone.eq_none_bool (fin_bl I q (by simp))
    | int j => obtain ⟨t', rfl⟩ := ry; exact PySem.EqNone.eq_none_int (fin_bl I q (by simp))
    | str j => obtain ⟨t', rfl⟩ := ry; exact PySem.EqNone.eq_none_str (fin_bl I q (by simp))
    | _ => exact absurd (show false = true from hs) Bool.false_ne_true
  | bl i =>
    cases rx
    cases y with
    | non => cases ry; exact PySem.EqNone.eq_bool_none (fin_bl I q (by simp))
    | bl j => cases ry; exact eq_bool (fin_bl I q dec_bl)
    | str j => obtain ⟨t', rfl⟩ := ry; exact PySem.EqMixed.eq_bool_str (fin_bl I q (by simp))
    | _ => exact absurd (show false = true from hs) Bool.false_ne_true
  | int i =>
    obtain ⟨t, rfl⟩ := rx
    cases y with
    | non => cases ry; exact PySem.EqNone.eq_int_none (fin_bl I q (by simp))
    | int j => obtain ⟨t', rfl⟩ := ry; exact eq_int (fin_bl I q dec_int)
    | str j => obtain ⟨t', rfl⟩ := ry; exact PySem.EqMixed.eq_int_str (fin_bl I q (by simp))
    | _ => exact absurd (show false = true from hs) Bool.false_ne_true
  | str i =>
    obtain ⟨t, rfl⟩ := rx
    cases y with
    | non => cases ry; exact PySem.EqNone.eq_str_none (fin_bl I q (by simp))
    | bl j => cases ry; exact PySem.EqMixed.eq_str_bool (fin_bl I q (by simp))
    | int j => obtain ⟨t', rfl⟩ := ry; exact PySem.EqMixed.eq_str_int (fin_bl I q (by simp))
    | str j => obtain ⟨t', rfl⟩ := ry; exact eq_str (fin_bl I q dec_str)
    | _ => exact absurd (show false = true from hs) Bool.false_ne_true
  | byt i =>
    obtain ⟨t, rfl⟩ := rx
    cases y with
    | byt j => obtain ⟨t', rfl⟩ := ry; exact PySem.W.eq_bytes (fin_bl I q dec_byt)
    | _ => exact absurd (show false = true from hs) Bool.false_ne_true
  | _ => cases y <;> exact absurd (show false = true from hs) Bool.false_ne_true
theorem op_ne : OpR X (compareOp .NotEq) rNe := by
  intro pins s σ H x y v u Q I rx ry h
  obtain ⟨hs, q⟩ := h
  cases x with
  | non =>
    cases rx
    cases y with
    | non => cases ry; exact PySem.EqNone.ne_none_none (fin_bl I q (by simp))
    | bl j => cases ry; exact PySem.EqNone.ne_none_bool (fin_bl I q (by simp))
    | int j => obtain ⟨t', rfl⟩ := ry; exact PySem.EqNone.ne_none_int (fin_bl I q (by simp))
    | str j => obtain ⟨t', rfl⟩ := ry; exact PySem.EqNone.ne_none_str (fin_bl I q (by simp))
    | _ => exact absurd (show false = true from hs) Bool.false_ne_true
  | bl i =>
    cases rx
    cases y with
    | non => cases ry; exact PySem.EqNone.ne_bool_none (fin_bl I q (by simp))
    | bl j => cases ry; exact ne_bool (fin_bl I q (congrArg not dec_bl))
    | str j => obtain ⟨t', rfl⟩ := ry; exact PySem.EqMixed.ne_bool_str (fin_bl I q (by simp))
    | _ => exact absurd (show false = true from hs) Bool.false_ne_true
  | int i =>
    obtain ⟨t, rfl⟩ := rx
    cases y with
    | non => cases ry; exact PySem.EqNone.ne_int_none (fin_bl I q (by simp))
    | int j => obtain ⟨t', rfl⟩ := ry; exact ne_int (fin_bl I q (congrArg not dec_int))
    | str j => obtain ⟨t', rfl⟩ := ry; exact PySem.EqMixed.ne_int_str (fin_bl I q (by simp))
    | _ => exact absurd (show false = true from hs) Bool.false_ne_true
  | str i =>
    obtain ⟨t, rfl⟩ := rx
    cases y with
    | non => cases ry; exact PySem.EqNone.ne_str_none (fin_bl I q (by simp))
    | bl j => cases ry; exact PySem.EqMixed.ne_str_bool (fin_bl I q (by simp))
    | int j => obtain ⟨t', rfl⟩ := ry; exact PySem.EqMixed.ne_str_int (fin_bl I q (by simp))
    | str j => obtain ⟨t', rfl⟩ := ry; exact ne_str (fin_bl I q (congrArg not dec_str))
    | _ => exact absurd (show false = true from hs) Bool.false_ne_true
  | byt i =>
    obtain ⟨t, rfl⟩ := rx
    cases y with
    | byt j => obtain ⟨t', rfl⟩ := ry; exact PySem.W.ne_bytes (fin_bl I q (congrArg not dec_byt))
    | _ => exact absurd (show false = true from hs) Bool.false_ne_true
  | _ => cases y <;> exact absurd (show false = true from hs) Bool.false_ne_true
theorem op_lt : OpR X (compareOp .Lt) (rI0 fun i j => .bl (decide (i < j))) := opB0 fun _ _ _ _ _ _ _ q => lt_int q
theorem nomark (b : Expr) {op : CmpOp} (h : op ≠ .In := by decide) (h2 : op ≠ .NotIn := by decide) : behindInMarks op b = false := by
  have e1 : (op == CmpOp.In) = false := by cases op <;> first | rfl | exact absurd rfl h
  have e2 : (op == CmpOp.NotIn) = false := by cases op <;> first | rfl | exact absurd rfl h2
  cases b <;> simp [behindInMarks, e1, e2]
theorem pe_cmpR {op : CmpOp} {r : R2} (ho : OpR X (compareOp op) r) (ha : PE X a ta) (hb : PE X b tb) (hm : behindInMarks op b = false) : PE X (.Compare a [op] [b] pos) (tOp r ta tb) := by
  intro pins s σ H Q I h
  exact wpAny_Compare1 (binT ha hb I h fun v u s2 x y H2 I2 rx ry q => ho pins s2 σ H2 x y v u Q I2 rx ry q) hm
def tTest (t : TE) : TT := fun σ H Q => t σ H fun x H' => ∃ k, x = .bl k ∧ Q k H'
theorem pt_cmpR {op : CmpOp} {r : R2} (ho : OpR X (compareOp op) r) (ha : PE X a ta) (hb : PE X b tb) (hm : behindInMarks op b = false) : PT X (.Compare a [op] [b] pos) (tTest (tOp r ta tb)) := by
  intro pins s σ H Q I h
  refine wpAny_isTrue_Compare1 (thn (ha pins s σ H _ I h) fun v s1 ⟨x, H1, I1, r1, q1⟩ => thn (hb pins s1 σ H1 _ I1 q1) fun u s2 ⟨y, H2, I2, r2, q2⟩ =>
    thn (ho pins s2 σ H2 x y v u _ I2 r1 r2 q2) fun c s3 ⟨z, H3, I3, r3, k, e, q3⟩ => ?_) hm
  subst e
  cases r3
  exact wpAny_truthy_bool ⟨H3, I3, q3⟩
theorem line63 : (sizeLine : Nat) < 2 ^ 63 := by rw [sizeLine_eq]; decide
theorem op_add_str : OpR X (binaryOp .Add) (fun x y H Q => ∃ i j, x = .str i ∧ y = .str j ∧ i.length + j.length ≤ sizeLine ∧ Q (.str (i ++ j)) H) := by
  intro pins s σ H x y v u Q I rx ry h
  obtain ⟨i, j, rfl, rfl, hz, q⟩ := h
  obtain ⟨t, rfl⟩ := rx
  obtain ⟨t', rfl⟩ := ry
  exact wpAny_with_toks (Nat.le_refl _) (add_str (fun t' tk htk => ⟨.str (i ++ j), H, I.tok _ htk, ⟨_, rfl⟩, q⟩) hz)
theorem iop_add_str : OpR X (inplaceOp .Add) (fun x y H Q => ∃ i j, x = .str i ∧ y = .str j ∧ i.length + j.length ≤ sizeLine ∧ Q (.str (i ++ j)) H) := by
  intro pins s σ H x y v u Q I rx ry h
  obtain ⟨i, j, rfl, rfl, hz, q⟩ := h
  obtain ⟨t, rfl⟩ := rx
  obtain ⟨t', rfl⟩ := ry
  exact wpAny_with_toks (Nat.le_refl _) (iadd_str (fun t' tk htk => ⟨.str (i ++ j), H, I.tok _ htk, ⟨_, rfl⟩, q⟩) hz)
theorem vals1 {x : V} {us : List Value} (r : Vals [x] us) : ∃ u, us = [u] ∧ RelV x u := by
  cases r with
  | cons r1 r2 => cases r2; exact ⟨_, rfl, r1⟩
theorem vals2 {x y : V} {us : List Value} (r : Vals [x, y] us) : ∃ u w', us = [u, w'] ∧ RelV x u ∧ RelV y w' := by
  cases r with
  | cons r1 r2 =>
    cases r2 with
    | cons r3 r4 => cases r4; exact ⟨_, _, rfl, r1, r3⟩
end
end L2
namespace L2
open PySem PySem.Spec PyProof.Rows
structure ObjM (h : Heap) (x dx C : Addr) (mA : Str → Option Value) : Prop where
  obj : h.get? x = some (PySem.W.instObj C dx)
  ns : h.Ns1 dx mA
  ne : dx ≠ x
theorem lookIn_ns {h : Heap} {dx : Addr} {mA : Str → Option Value} (n : h.Ns1 dx mA) : ∃ od, h.get? dx = some od ∧ ∀ name, PySem.W.lookIn name od = some (mA name) := by
  obtain ⟨o, es, ep, ho, hd, hk, _, hm⟩ := n
  refine ⟨o, ho, fun name => ?_⟩
  have e := hm name
  unfold nsFind findBy at e
  rw [← Array.find?_toList] at e
  unfold PySem.W.lookIn
  rw [hd]
  dsimp only
  split
  · rename_i y q
    rw [q] at e
    exact congrArg some e
  · rename_i q
    rw [q] at e
    have a : es.toList.any (·.refKey) = false := by
      rw [List.any_eq_false]
      intro y hy
      obtain ⟨z, t, hkey⟩ := hk y (Array.mem_toList_iff.mp hy)
      simp [DictEntry.refKey, hkey]
    have a' : ¬ es.toList.any (·.refKey) = true := by rw [a]; exact Bool.false_ne_true
    rw [if_neg a']
    exact congrArg some e
theorem ObjM.look {h : Heap} {x dx C : Addr} {mA : Str → Option Value} (I : ObjM h x dx C mA) : ∃ od, PySem.W.InstAt h x (PySem.W.instObj C dx) C (some od) ∧ ∀ name, PySem.W.lookIn name od = some (mA name) :=
  let ⟨od, ho, hl⟩ := lookIn_ns I.ns
  ⟨od, ⟨I.obj, rfl, rfl, ho⟩, hl⟩
section
variable {prog : Program} {w : World} {A : Around} {E : Value → Shared → Prop} {s : Shared} {K : PySem.W.Frag} {x dx C f : Addr} {mA : Str → Option Value} {name : Str} {v : Value}
theorem get_map {expr : Bool} {Q : Value → Shared → Prop} (X : K.In s.heap) (I : ObjM s.heap x dx C mA) (hg : PySem.W.plainGet K C name = true) (hh : PySem.W.hasDictIn K C = true)
    (ha : PySem.W.findIn K (.ref C) name = some none) (hv : mA name = some v) (hv' : PySem.W.handedIn v = true) (h : Q v { s with toks := s.toks + 1 }) :
    wpAny (model prog w) A (getAttr (.ref x) name expr) Q E s := by
  obtain ⟨od, J, hl⟩ := I.look
  exact PySem.W.get_value X J (PySem.W.plainGet_of hg).1 (PySem.W.findObj_own hh ha rfl (by rw [hl, hv])) hv' h
end
theorem RelO.some_of {v : V} {o : Option Value} (r : RelO (some v) o) : ∃ u, o = some u ∧ RelV v u := by
  cases o with
  | none => exact (show False from r).elim
  | some u => exact ⟨u, rfl, r⟩
section
variable {P : Program} {w : World} {H H' : Hp} {h h' : Heap} {a C dx : Addr} {fs fs' : List (Str × V)}
theorem ins_get (hok : HOk P w H h) (e : H a = some (.ins C dx fs)) : ∃ mA, ObjM h a dx C mA ∧ (∀ f, RelO (fs.lookup f) (mA f)) ∧ PySem.Within mA (fs.map (·.1)) ∧ fs.length ≤ 1000 ∧ H dx = some (.own a) := by
  obtain ⟨d, z, ne, ob, mA, n, r, q⟩ := (show ObjOk P w H h a (.ins C dx fs) from hok a _ e)
  exact ⟨mA, ⟨ob, n, ne⟩, r, q, z, d⟩
end
structure Cls (K : PySem.W.Frag) (C : Addr) : Prop where
  pg : PySem.W.plainGet K C Str.empty = true
  hd : PySem.W.hasDictIn K C = true
  po : PySem.W.plainOver K C = true
  sa : PySem.W.findIn K (.ref C) "__setattr__" = some (some (.builtin "object.__setattr__"))
theorem Cls.get {K : PySem.W.Frag} {C : Addr} (c : Cls K C) (f : Str) : PySem.W.plainGet K C f = true := c.pg
section
variable {X : Cx} {pins : List (Addr × Obj)} {σ : St} {H : Hp} {s : Shared} {a C dx : Addr} {fs : List (Str × V)} {f : Str} {v : V} {A : Around} {E : Value → Shared → Prop}
theorem Inv.made (I : Inv X pins σ H s) : Inv X pins σ (upd (upd H s.heap.objs.size (.own (s.heap.objs.size + 1))) (s.heap.objs.size + 1) (.ins C s.heap.objs.size []))
    { s with heap := (s.heap.push PySem.W.emptyDict).push (PySem.W.instObj C s.heap.objs.size) } := by
  have e1 : (s.heap.push PySem.W.emptyDict).get? s.heap.objs.size = some PySem.W.emptyDict := Heap.get?_push_size s.heap rfl
  have e2 : ((s.heap.push PySem.W.emptyDict).push (PySem.W.instObj C s.heap.objs.size)).get? (s.heap.objs.size + 1) = some (PySem.W.instObj C s.heap.objs.size) := by
    have := Heap.get?_push_size (s.heap.push PySem.W.emptyDict) (o := PySem.W.instObj C s.heap.objs.size) rfl
    rwa [Heap.size_push] at this
  have e3 : (s.heap.push PySem.W.emptyDict).Ns s.heap.objs.size (fun _ => none) := ⟨PySem.W.emptyDict, #[], _, e1, rfl, (fun e he => absurd he (by simp)), fun _ => rfl⟩
  have I1 := I.laid (a := s.heap.objs.size) (o := .own (s.heap.objs.size + 1)) (h' := s.heap.push PySem.W.emptyDict) (t' := s.toks) (fun b u q => Heap.get?_push_of_some _ q) (Nat.le_refl _) ⟨_, e1⟩
  refine I1.laid (a := s.heap.objs.size + 1) (o := .ins C s.heap.objs.size []) (t' := s.toks) (fun b u q => Heap.get?_push_of_some _ q) (Nat.le_of_eq (Heap.size_push _ _)) ?_
  have ne : s.heap.objs.size ≠ s.heap.objs.size + 1 := Nat.ne_of_lt (Nat.lt_succ_self _)
  refine ⟨by rw [upd_ne ne, upd_same], Nat.zero_le _, ne, e2, fun _ => none, (Heap.Ns1.of_empty e3).at fun o q => Heap.get?_push_of_some _ q, fun _ => True.intro, fun y hy => absurd rfl hy⟩
end
section
variable {X : Cx} {o e value : Expr} {f : Str} {pos pos' tpos : Pos} {ta tv : TE}
end
section
variable {X : Cx} {pins : List (Addr × Obj)} {σ : St} {H : Hp} {s : Shared} {A : Around} {E : Value → Shared → Prop} {Q : Value → Shared → Prop} {c : Value} {b : Bool}
inductive TyOf (K : PySem.W.Frag) (H : Hp) : V → Value → Prop where
  | non : TyOf K H .non (.type "NoneType")
  | bl (x : Bool) : TyOf K H (.bl x) (.type "bool")
  | int (i : Int) : TyOf K H (.int i) (.type "int")
  | str (x : Str) : TyOf K H (.str x) (.type "str")
  | flt (x : UInt64) : TyOf K H (.flt x) (.type "float")
  | lst {a : Addr} {xs : List V} (e : H a = some (.lst xs)) : TyOf K H (.ref a) (.type "list")
  | frz {a : Addr} {o : Obj} {xs : List V} (e : H a = some (.frz o (.lst xs))) : TyOf K H (.ref a) (.type "list")
  | tup {a : Addr} {xs : List V} (e : H a = some (.tup xs)) : TyOf K H (.ref a) (.type "tuple")
  | dK {a : Addr} {kvs : List (Key × V)} (e : H a = some (.dK kvs)) : TyOf K H (.ref a) (.type "dict")
  | dT {a : Addr} {kvs : List (List Key × V)} (e : H a = some (.dT kvs)) : TyOf K H (.ref a) (.type "dict")
  | ins {a C dx : Addr} {fs : List (Str × V)} (e : H a = some (.ins C dx fs)) (cl : Cls K C) (ha : PySem.W.findIn K (.ref C) "__class__" = some (some (.builtin "object.__class__")))
      (hn : PySem.W.specialIn K (.builtin "object.__class__") "__get__" = some (some (.builtin "getset_descriptor.__get__"))) (htk : PySem.W.takesIn K (.builtin "object.__class__") = some true)
      (hm : PySem.W.mroIn K C (.type "object") = some true) : TyOf K H (.ref a) (.ref C)
theorem isinst_ok {x : V} {u t : Value} (I : Inv X pins σ H s) (rx : RelV x u) (ty : TyOf X.K H x t) (e : PySem.W.kitOne X.K t c = some b) (h : ∀ tk, Q (.bool b) { s with toks := tk }) :
    wpAny (model X.prog X.w) A (call (.builtin "isinstance") [u, c]) Q E s := by
  cases ty with
  | non => cases (show u = Value.none from rx); exact PySem.W.kia_one PySem.W.kitx_none I.kIn True.intro e (fun z => nomatch z) h
  | bl y => cases (show u = Value.bool y from rx); exact PySem.W.kia_one PySem.W.kitx_bool I.kIn True.intro e (fun z => nomatch z) h
  | int i => obtain ⟨t, q⟩ := (show ∃ t, u = Value.int i t from rx); cases q; exact PySem.W.kia_one PySem.W.kitx_int I.kIn True.intro e (fun z => nomatch z) h
  | str y => obtain ⟨t, q⟩ := (show ∃ t, u = Value.str y t from rx); cases q; exact PySem.W.kia_one PySem.W.kitx_str I.kIn True.intro e (fun z => nomatch z) h
  | flt y => obtain ⟨t, q⟩ := (show ∃ t, u = Value.float y t from rx); cases q; exact PySem.W.kia_one PySem.W.kitx_float I.kIn True.intro e (fun z => nomatch z) h
  | @lst a xs ea =>
    cases (show u = Value.ref a from rx)
    obtain ⟨_, _, n, _, h1⟩ := (show ObjOk X.prog X.w H s.heap a (.lst xs) from I.hok a _ ea)
    exact PySem.W.kia_one PySem.W.kitx_list I.kIn ⟨_, h1, rfl⟩ e (fun z => nomatch z) h
  | @frz a ob xs ea =>
    cases (show u = Value.ref a from rx)
    obtain ⟨_, _, _, n, _, h1⟩ := (show ObjOk X.prog X.w H s.heap a (.frz ob (.lst xs)) from I.hok a _ ea)
    exact PySem.W.kia_one PySem.W.kitx_list I.kIn ⟨_, h1, rfl⟩ e (fun z => nomatch z) h
  | @tup a xs ea =>
    cases (show u = Value.ref a from rx)
    obtain ⟨_, _, _, p⟩ := (show ObjOk X.prog X.w H s.heap a (.tup xs) from I.hok a _ ea)
    obtain ⟨o, h1, h2, _⟩ := p
    exact PySem.W.kia_one PySem.W.kitx_tuple I.kIn ⟨o, h1, h2⟩ e (fun z => nomatch z) h
  | @dK a kvs ea =>
    cases (show u = Value.ref a from rx)
    obtain ⟨_, _, vs, _, p⟩ := (show ObjOk X.prog X.w H s.heap a (.dK kvs) from I.hok a _ ea)
    obtain ⟨o, es, ep, h1, h2, _⟩ := p
    exact PySem.W.kia_one PySem.W.kitx_dict I.kIn ⟨o, h1, h2.1⟩ e (fun z => nomatch z) h
  | @dT a kvs ea =>
    cases (show u = Value.ref a from rx)
    obtain ⟨_, _, xs, _, o, es, ep, h1, h2, _⟩ := (show ObjOk X.prog X.w H s.heap a (.dT kvs) from I.hok a _ ea)
    exact PySem.W.kia_one PySem.W.kitx_dict I.kIn ⟨o, h1, h2.1⟩ e (fun z => nomatch z) h
  | @ins a C dx fs ea cl ha hn htk hm =>
    cases (show u = Value.ref a from rx)
    obtain ⟨mA, O, _⟩ := ins_get I.hok ea
    obtain ⟨od, J, _⟩ := O.look
    exact PySem.W.kia_one (PySem.W.kitx_own (cl.get _) cl.hd ha hn htk hm) I.kIn J e (fun z => nomatch z) h
end
end L2
namespace L2
open PySem PySem.Spec PyProof.Rows
structure Room (k : Nat) (A : Around) : Prop where
  hd : A.handled = none
  dp : A.depth + 3 * k + 5 < recursionLimit
  un : A.units + 16 * k + 200 < cLine
theorem Room.mono {j k : Nat} {A : Around} (r : Room k A) (h : j ≤ k) : Room j A := ⟨r.hd, by have := r.dp; omega, by have := r.un; omega⟩
theorem Room.deeper {k : Nat} {A : Around} (r : Room (k + 1) A) (env : Env) : Room k (A.deeper env) :=
  ⟨r.hd, by have := r.dp; show A.depth + 1 + 3 * k + 5 < _; omega, by have := r.un; show A.units + 3 + 16 * k + 200 < _; omega⟩
theorem Room.in1 {k : Nat} {A : Around} (r : Room (k + 1) A) : Room k A.in1 :=
  ⟨r.hd, by have := r.dp; show A.depth + 3 * k + 5 < _; omega, by have := r.un; show A.units + 1 + 16 * k + 200 < _; omega⟩
theorem Room.depth {k : Nat} {A : Around} (r : Room k A) : A.depth < recursionLimit := by have := r.dp; omega
theorem Room.units {k : Nat} {A : Around} (r : Room k A) : A.units + 64 < cLine := by have := r.un; omega
def tNil : TA := fun _ H Q => Q [] H
def tCons (ta : TE) (tr : TA) : TA := fun σ H Q => ta σ H fun x H1 => tr σ H1 fun xs H2 => Q (x :: xs) H2
section
variable {X : Cx} {e : Expr} {es : List Expr} {te : TE} {t : TA} {pos : Pos}
theorem pa_nil : PA X [] tNil := fun _ _ _ _ H Q I h => Calls.spliced_nil ⟨[], H, I, .nil, h⟩
theorem pa_cons (ha : PE X e te) (hr : PA X es t) (hs : starEach (e :: es) X.env = (false, eval e X.env) :: starEach es X.env := by rfl) : PA X (e :: es) (tCons te t) := by
  intro pos pins s σ H Q I h
  rw [hs]
  show wpAny _ _ (spliced ((false, eval e X.env) :: backTo pos (starEach es X.env))) _ _ s
  refine Calls.spliced_cons (thn (ha pins s σ H _ I h) fun u s1 ⟨x, H1, I1, r1, q1⟩ => ?_)
  exact thn (hr pos pins s1 σ H1 _ I1 q1) fun us s2 ⟨xs, H2, I2, r2, q2⟩ => ⟨x :: xs, H2, I2, .cons r1 r2, q2⟩
def tTup (t : TA) : TE := fun σ H Q => t σ H fun xs H1 => xs.length ≤ sizeLine ∧ ∀ p, H1 p = none → Q (.ref p) (upd H1 p (.tup xs))
def tLst (t : TA) : TE := fun σ H Q => t σ H fun xs H1 => xs.length ≤ sizeLine ∧ ∀ p, H1 p = none → Q (.ref p) (upd H1 p (.lst xs))
theorem pe_tup {x1} (h : PA X es t) : PE X (.Tuple es x1 pos) (tTup t) := by
  intro pins s σ H Q I hq
  refine wpAny_Tuple_spliced (thn (h pos pins s σ H _ I hq) fun us s1 ⟨xs, H1, I1, r, z, q⟩ => ⟨by rw [← r.length]; exact z, ?_⟩)
  have hf : H1 s1.heap.objs.size = none := I1.hok.fresh (Nat.le_refl _)
  refine ⟨.ref s1.heap.objs.size, upd H1 s1.heap.objs.size (.tup xs), I1.laid (t' := s1.toks) (fun b u e => Heap.get?_push_of_some _ e) (Nat.le_refl _) ?_, rfl, q _ hf⟩
  exact ⟨z, us, r, ⟨_, Heap.get?_push_size _ rfl, rfl, _, rfl⟩⟩
theorem pe_lst (h : PA X es t) : PE X (.List es pos) (tLst t) := by
  intro pins s σ H Q I hq
  refine wpAny_List_spliced (thn (h pos pins s σ H _ I hq) fun us s1 ⟨xs, H1, I1, r, z, q⟩ => ⟨by rw [← r.length]; exact z, ?_⟩)
  have hf : H1 s1.heap.objs.size = none := I1.hok.fresh (Nat.le_refl _)
  refine ⟨.ref s1.heap.objs.size, upd H1 s1.heap.objs.size (.lst xs), I1.laid (t' := s1.toks) (fun b u e => Heap.get?_push_of_some _ e) (Nat.le_refl _) ?_, rfl, q _ hf⟩
  exact ⟨z, us, 0, r, Heap.get?_push_size _ rfl⟩
end
abbrev Sp := List V → Hp → VK → XK → Prop
abbrev CXT := List Env → Hp → Shared → XK → Value → Shared → Prop
structure Env0 (P : Program) (w : World) (K : PySem.W.Frag) (mg : Str → Option Value) (base : Heap) (A : Around) (outer : List Env) (s : Shared) (H : Hp) : Prop where
  frames : A.frames = some outer
  mod : Mod K mg base
  bs : ∀ b o, base.get? b = some o → s.heap.get? b = some o ∧ H b = none
  bsz : base.objs.size ≤ s.heap.objs.size
  funs : s.heap.FunFrames base outer
  frf : ∀ b ∈ frs outer, H b = none
  hok : HOk P w H s.heap
  bare : Bar H s.gens s.toks
def CE (outer : List Env) (P : Program) (w : World) (H : Hp) (s : Shared) (Q : VK) (u : Value) (s' : Shared) : Prop :=
  ∃ v H', s'.os = s.os ∧ Bar H' s'.gens s'.toks ∧ Un (frs outer) [] H H' s.heap s'.heap ∧ HOk P w H' s'.heap ∧ RelV v u ∧ Q v H'
def CR (CX : CXT) (outer : List Env) (P : Program) (w : World) (H : Hp) (s : Shared) (Q : VK) (E : XK) (r : Result) (s' : Shared) : Prop :=
  match r with
  | .ok (.ret u) => CE outer P w H s Q u s'
  | .ok _ => False
  | .error e => CX outer H s E e s'
structure FnOk (P : Program) (w : World) (K : PySem.W.Frag) (mg : Str → Option Value) (base : Heap) (CX : CXT) (k : Nat) (f : Addr) (fd : FuncData) (ps : List Str) (sp : Sp) : Prop where
  len : ∀ vs H Q E, sp vs H Q E → vs.length = ps.length
  run : ∀ (A : Around) (outer : List Env) (s : Shared) (H : Hp) (args : Args) (us : List Value) (vs : List V) (Q : VK) (E : XK), Room k A → Env0 P w K mg base A outer s H → BindsTo s fd args (ps.zip us) → Vals vs us → sp vs H Q E →
    codeAny (model P w) A (.call (.ref f) args) (CR CX outer P w H s Q E) s
theorem FnOk.mono {P : Program} {w : World} {K : PySem.W.Frag} {mg : Str → Option Value} {base : Heap} {CX : CXT} {j k : Nat} {f : Addr} {fd : FuncData} {ps : List Str} {sp : Sp} (F : FnOk P w K mg base CX j f fd ps sp) (h : j ≤ k) :
    FnOk P w K mg base CX k f fd ps sp := ⟨F.len, fun A outer s H args us vs Q E hr => F.run A outer s H args us vs Q E (hr.mono h)⟩
theorem FnOk.imp {P : Program} {w : World} {K : PySem.W.Frag} {mg : Str → Option Value} {base : Heap} {CX : CXT} {k : Nat} {f : Addr} {fd : FuncData} {ps : List Str} {sp sp' : Sp} (F : FnOk P w K mg base CX k f fd ps sp)
    (h : ∀ vs H Q E, sp' vs H Q E → sp vs H Q E) : FnOk P w K mg base CX k f fd ps sp' :=
  ⟨fun vs H Q E q => F.len vs H Q E (h _ _ _ _ q), fun A outer s H args us vs Q E hr he hb hv hs => F.run A outer s H args us vs Q E hr he hb hv (h _ _ _ _ hs)⟩
theorem Env0.in1 {P : Program} {w : World} {K : PySem.W.Frag} {mg : Str → Option Value} {base : Heap} {A : Around} {outer : List Env} {s : Shared} {H : Hp} (e : Env0 P w K mg base A outer s H) :
    Env0 P w K mg base A.in1 outer s H := ⟨e.frames, e.mod, e.bs, e.bsz, e.funs, e.frf, e.hok, e.bare⟩
section
variable {X : Cx} {pins : List (Addr × Obj)} {σ : St} {H : Hp} {s s' : Shared}
theorem Inv.env0 (I : Inv X pins σ H s) : Env0 X.prog X.w X.K X.mg X.base X.A X.stack s H :=
  ⟨I.ok.frames, I.ok.mod, I.bs, Nat.le_trans I.ok.bsz I.sz, I.stack, I.stkFree, I.hok, I.bare⟩
theorem Inv.after {Q : VK} {u : Value} (I : Inv X pins σ H s) (h : CE X.stack X.prog X.w H s Q u s') : EP X pins σ Q u s' := by
  obtain ⟨v, H', os, bare, un, hok, r, q⟩ := h
  obtain ⟨hh, g, d, t, os'⟩ := s'
  obtain rfl : os' = s.os := os
  exact ⟨v, H', I.call (h' := hh) (g' := g) (d' := d) (t' := t) (ch := []) un hok bare (fun b z => absurd z (by simp)), r, q⟩
end
def tCall (sp : Sp) (dvs : List V) (E : XK) (t : TA) : TE := fun σ H Q => t σ H fun vs H1 => sp (vs ++ dvs) H1 Q E
def Binds (K : PySem.W.Frag) (fd : FuncData) (ps : List Str) (ds : List Value) : Prop :=
  ∀ (s : Shared) (us : List Value), K.In s.heap → (us ++ ds).length = ps.length → BindsTo s fd ⟨us, []⟩ (ps.zip (us ++ ds))
theorem Binds.all {K : PySem.W.Frag} {fd : FuncData} {ps : List Str} (h : ∀ us : List Value, us.length = ps.length → bindArgs fd ⟨us, []⟩ = pure (ps.zip us)) : Binds K fd ps [] := fun s us _ hl => by
  rw [List.append_nil] at hl ⊢
  exact .of_eq (h us hl)
def Passes (CX : CXT) (X : Cx) (E : XK) : Prop := ∀ (pins : List (Addr × Obj)) (σ : St) (H : Hp) (s : Shared) (e : Value) (s' : Shared), Inv X pins σ H s → CX X.stack H s E e s' → X.xe e s'
section
variable {X : Cx} {CX : CXT} {k : Nat} {f C : Addr} {fd : FuncData} {ps : List Str} {sp : Sp} {dvs : List V} {ds : List Value} {E : XK} {x m : Str} {p pos apos : Pos} {e o : Expr} {es : List Expr} {ta : TE} {t : TA}
theorem run_fn {pins : List (Addr × Obj)} {σ : St} {H : Hp} {s : Shared} {Q : VK} {us : List Value} {vs : List V} (F : FnOk X.prog X.w X.K X.mg X.base CX k f fd ps sp) (hr : Room k X.A) (hb : Binds X.K fd ps ds) (hd : Vals dvs ds) (hx : Passes CX X E)
    (I : Inv X pins σ H s) (r : Vals vs us) (h : sp (vs ++ dvs) H Q E) : wpAny (model X.prog X.w) X.A (call (.ref f) us) (EP X pins σ Q) X.xe s := by
  have r2 : Vals (vs ++ dvs) (us ++ ds) := r.append hd
  have hl : (us ++ ds).length = ps.length := by rw [← r2.length]; exact F.len _ _ _ _ h
  refine wpAny_call (codeAny_mono (F.run X.A X.stack s H ⟨us, []⟩ (us ++ ds) (vs ++ dvs) Q E hr I.env0 (hb s us I.kIn hl) r2 h) fun r s' hq => ?_)
  cases r with
  | error e => exact hx pins σ H s e s' I hq
  | ok fl =>
    cases fl with
    | ret u => exact I.after hq
    | next => exact False.elim hq
    | brk => exact False.elim hq
    | cont => exact False.elim hq
theorem pe_call (F : FnOk X.prog X.w X.K X.mg X.base CX k f fd ps sp) (hr : Room k X.A) (hg : Gl X x) (hm : X.mg x = some (.ref f)) (hk : PySem.W.keepIn X.K (.ref f) = true) (hb : Binds X.K fd ps ds) (hd : Vals dvs ds) (hx : Passes CX X E)
    (ha : PA X (e :: es) t) (hdb : (x == ("__debug__" : Str)) = false := by decide) (he : starEach (e :: es) X.env = (false, eval e X.env) :: starEach es X.env := by rfl) (hpl : (backTo pos (starEach es X.env)).any (·.1) = false := by rfl) :
    PE X (.Call (.Name x p) (e :: es) [] pos) (tCall sp dvs E t) := by
  intro pins s σ H Q I h
  refine wpAny_Call_Name_kw (ld_glob I hg hm ?_ hdb)
  refine PySem.W.callWith_K (h₀ := X.base) I.ok.mod.kin hk (thn (ha pos pins s σ H _ I h) fun us s1 ⟨vs, H1, I1, r, q⟩ => ⟨I1.kIn, ?_⟩) he hpl
  exact run_fn F hr hb hd hx I1 r q
end
section
variable {X : Cx} {CX : CXT} {k : Nat} {f C : Addr} {fd : FuncData} {ps ks : List Str} {sp : Sp} {E : XK} {x m : Str} {p pos apos kpos : Pos} {e o : Expr} {es : List Expr} {kws : List Keyword} {te ta : TE} {t tk : TA} {nm : Option Str}
variable {g : List Value → List Value → List Value} {gV : List V → List V → List V}
end
structure FnScope (N P : List Str) (sc : Scope) : Prop where
  kind : sc.kind = .function
  co : sc.isCoroutine = false
  gen : sc.isGenerator = false
  nd : N.Nodup
  pre : N.take P.length = P
  par : ∀ x ∈ P, sc.names.lookup x = some .local ∨ sc.names.lookup x = some .cell
  nofree : ∀ y ∈ sc.names, y.2 ≠ .free
theorem bindL_out {kindOf : Str → Option NameKind} {x : Str} : ∀ {binds : List (Str × Value)} {m : Str → Option Value}, (∀ v, (x, v) ∉ binds) → bindL kindOf binds m x = m x
  | [], _, _ => rfl
  | (n, v) :: r, m, h => by
    unfold bindL
    rw [bindL_out fun w hw => h w (List.mem_cons_of_mem _ hw)]
    split
    · have : x ≠ n := by rintro rfl; exact h v List.mem_cons_self
      simp [this]
    · rfl
theorem bindC_out {kindOf : Str → Option NameKind} {x : Str} : ∀ {binds : List (Str × Value)} {m : Str → Option Value}, (∀ v, (x, v) ∉ binds) → bindC kindOf binds m x = m x
  | [], _, _ => rfl
  | (n, v) :: r, m, h => by
    unfold bindC
    rw [bindC_out fun w hw => h w (List.mem_cons_of_mem _ hw)]
    split
    · rfl
    · have : x ≠ n := by rintro rfl; exact h v List.mem_cons_self
      simp [this]
theorem bindL_get {kindOf : Str → Option NameKind} {x : Str} {v : Value} : ∀ {P : List Str} {vs : List Value} {i : Nat} {m : Str → Option Value}, P.Nodup → P[i]? = some x → vs[i]? = some v → kindOf x = some .local →
    bindL kindOf (P.zip vs) m x = some v
  | [], _, _, _, _, h, _, _ => by simp at h
  | _ :: _, [], _, _, _, _, h, _ => by simp at h
  | p :: P, w :: vs, 0, m, nd, h1, h2, hk => by
    simp at h1 h2; subst h1; subst h2
    show bindL kindOf ((p, w) :: P.zip vs) m p = _
    unfold bindL
    rw [bindL_out fun v hv => (List.nodup_cons.mp nd).1 (List.of_mem_zip hv).1, if_pos hk]
    simp
  | p :: P, w :: vs, i + 1, m, nd, h1, h2, hk => by
    show bindL kindOf ((p, w) :: P.zip vs) m x = _
    unfold bindL
    exact bindL_get (i := i) (List.nodup_cons.mp nd).2 (by simpa using h1) (by simpa using h2) hk
theorem bindC_get {kindOf : Str → Option NameKind} {x : Str} {v : Value} : ∀ {P : List Str} {vs : List Value} {i : Nat} {m : Str → Option Value}, P.Nodup → P[i]? = some x → vs[i]? = some v → kindOf x ≠ some .local →
    bindC kindOf (P.zip vs) m x = some v
  | [], _, _, _, _, h, _, _ => by simp at h
  | _ :: _, [], _, _, _, _, h, _ => by simp at h
  | p :: P, w :: vs, 0, m, nd, h1, h2, hk => by
    simp at h1 h2; subst h1; subst h2
    show bindC kindOf ((p, w) :: P.zip vs) m p = _
    unfold bindC
    rw [bindC_out fun v hv => (List.nodup_cons.mp nd).1 (List.of_mem_zip hv).1, if_neg hk]
    simp
  | p :: P, w :: vs, i + 1, m, nd, h1, h2, hk => by
    show bindC kindOf ((p, w) :: P.zip vs) m x = _
    unfold bindC
    exact bindC_get (i := i) (List.nodup_cons.mp nd).2 (by simpa using h1) (by simpa using h2) hk
def start (N : List Str) (vs : List V) : St := vs.map some ++ List.replicate (N.length - vs.length) none
def cxOf (CX : CXT) (P : Program) (w : World) (K : PySem.W.Frag) (mg : Str → Option Value) (base : Heap) (N : List Str) (qual : Str) (scope : Scope) (f : Addr) (cd : Value) (A : Around) (outer : List Env) (s : Shared) (H : Hp) (E : XK) : Cx where
  prog := P
  w := w
  K := K
  mg := mg
  base := base
  A := A.deeper (envOfC qual scope s.heap.objs.size f cd)
  N := N
  s₀ := s
  H₀ := H
  env := envOfC qual scope s.heap.objs.size f cd
  outer := outer
  stack := envOfC qual scope s.heap.objs.size f cd :: outer
  ex := []
  calm := true
  fn := fun _ => true
  pn := []
  xe := fun e s' => wpAny (model P w) (A.deeper (envOfC qual scope s.heap.objs.size f cd)) (leaving (envOfC qual scope s.heap.objs.size f cd) e) (fun _ s'' => CX outer H s E e s'') (fun e' s'' => CX outer H s E e' s'') s'
theorem cell_has {sc : Scope} {n : Nat} {x : Str} (h : sc.names.lookup x = some .cell) : ∃ c, (cellsFrom n sc.names []).lookup x = some c := by
  have q := PySem.W.cellsFrom_some sc.names n [] (.inl h)
  exact Option.isSome_iff_exists.mp q
theorem inv_start {CX : CXT} {P : Program} {w : World} {K : PySem.W.Frag} {mg : Str → Option Value} {base : Heap} {N ps : List Str} {qual : Str} {scope : Scope} {f : Addr} {cd : Value} {A : Around} {outer : List Env} {s s1 : Shared} {H : Hp} {E : XK} {us : List Value} {vs : List V}
    (S : FnScope N ps scope) (hd : A.handled = none) (e0 : Env0 P w K mg base A outer s H) (hl : vs.length = ps.length) (r : Vals vs us)
    (x : InCallC s s.heap.objs.size (bindL (envOfC qual scope s.heap.objs.size f cd).kindOf (ps.zip us) fun _ => none) (cellsFrom (s.heap.objs.size + 1) scope.names []) (bindC (envOfC qual scope s.heap.objs.size f cd).kindOf (ps.zip us) fun _ => none) s1) (htk : s.toks ≤ s1.toks) :
    Inv (cxOf CX P w K mg base N qual scope f cd A outer s H E) [] (start N vs) H s1 := by
  have hpl : ps.length ≤ N.length := by have := congrArg List.length S.pre; rw [List.length_take] at this; omega
  obtain ⟨h1, tk, rfl, hk⟩ := x.done
  have noA : ∀ b : Addr, b ∉ (cxOf CX P w K mg base N qual scope f cd A outer s H E).ex := fun b z => absurd (show b ∈ ([] : List Addr) from z) (by simp)
  refine ⟨⟨e0.mod, S.kind, rfl, rfl, Nat.le_refl _, fun y z c h1 h2 => ?_, fun y hy => ?_, fun y c _ h => ?_, fun _ => hd, Around.frames_deeper e0.frames, .inr ⟨rfl, rfl⟩, fun b z => absurd z (noA b), e0.bs, e0.bsz, fun b _ _ => noA b, fun b z => absurd z (noA b), e0.funs, e0.frf⟩,
    rfl, ⟨e0.bare.1, Nat.le_trans e0.bare.2 htk⟩, Un.kept hk, ⟨_, x.toInCall.ns, fun i y v h1 h2 h3 => ?_⟩, fun y c h => ⟨_, x.cell y c h⟩, e0.hok.fresh (Nat.le_refl _), fun y c h => ?_, fun p hp => absurd (show p ∈ ([] : List (Addr × Obj)) from hp) (by simp), e0.hok.kept hk, ?_⟩
  · exact name_of_addr x.apart (PySem.mem_of_lookup h1) (PySem.mem_of_lookup h2)
  · have hy : scope.names.lookup y = some .cell ∨ scope.names.lookup y = some .free := hy
    rcases hy with hy | hy
    · exact cell_has hy
    · exact absurd rfl (S.nofree _ (PySem.mem_of_lookup hy))
  · exact Nat.le_of_lt (x.above y c (PySem.mem_of_lookup h))
  · have hi : i < vs.length := by
      unfold start at h2
      by_cases hi : i < vs.length
      · exact hi
      · rw [List.getElem?_append_right (by simpa using hi)] at h2
        rw [List.getElem?_replicate] at h2
        split at h2 <;> cases h2
    have ha : vs[i]? = some v := by
      unfold start at h2
      rw [List.getElem?_append_left (by simpa using hi), List.getElem?_map] at h2
      cases e : vs[i]? with
      | none => rw [e] at h2; cases h2
      | some a => rw [e] at h2; cases h2; rfl
    obtain ⟨u, hu, rv⟩ := r.get ha
    have hp : ps[i]? = some y := by
      rw [← S.pre, List.getElem?_take_of_lt (by omega)]; exact h1
    have ndP : ps.Nodup := by rw [← S.pre]; exact S.nd.sublist (List.take_sublist _ _)
    refine ⟨u, rv, ?_⟩
    rcases S.par y (List.mem_of_getElem? hp) with k | k
    · exact .inl ⟨k, bindL_get ndP hp hu k⟩
    · obtain ⟨c, e⟩ := cell_has (n := s.heap.objs.size + 1) k
      refine .inr ⟨.inl k, c, e, ?_⟩
      have q := x.cell y c e
      rw [bindC_get ndP hp hu (by show scope.names.lookup y ≠ _; rw [k]; decide)] at q
      exact q
  · exact e0.hok.fresh (Nat.le_of_lt (x.above y c (PySem.mem_of_lookup h)))
  · unfold start
    show _ = N.length
    rw [List.length_append, List.length_map, List.length_replicate]
    omega
theorem fn_of {CX : CXT} {P : Program} {w : World} {K : PySem.W.Frag} {mg : Str → Option Value} {base : Heap} {k : Nat} {f : Addr} {name qual : Str} {params : Arguments} {body : List Stmt} {scope : Scope} {dV kV doc pm cdv ct oc : Value} {an od : Option Addr}
    {osl : Array (Option Value)} {N ps : List Str} {sp : Sp} (lk : K.lookup f = some ⟨oc, od, .func (PySem.W.fnOf name qual params body scope dV kV doc pm an cdv ct), osl⟩) (hcd : PySem.W.codeIn K cdv qual = true) (S : FnScope N ps scope)
    (len : ∀ vs H Q E, sp vs H Q E → vs.length = ps.length)
    (hbody : ∀ (A : Around) (outer : List Env) (s : Shared) (H : Hp) (vs : List V) (Q : VK) (E : XK), Room k (A.deeper (envOfC qual scope s.heap.objs.size f cdv)) → sp vs H Q E →
      ∃ t, PSs (cxOf CX P w K mg base N qual scope f cdv A outer s H E) body t ∧ t { nx := fun _ H' => Q .non H', rt := Q } (start N vs) H) :
    FnOk P w K mg base CX (k + 1) f (PySem.W.fnOf name qual params body scope dV kV doc pm an cdv ct) ps sp := by
  refine ⟨len, fun A outer s H args us vs Q E hr e0 hb r hsp => ?_⟩
  have hl := len _ _ _ _ hsp
  have KX : K.In s.heap := e0.mod.kin.keeps fun b o e => (e0.bs b o e).1
  have lim : s.heap.NoLimit := e0.mod.nolimit.keeps fun b o e => (e0.bs b o e).1
  have hkind : ∀ y ∈ ps.zip us, scope.names.lookup y.1 = some .local ∨ (scope.names.lookup y.1 = some .cell ∧ ((cellsFrom (s.heap.objs.size + 1) scope.names []).lookup y.1).isSome = true) := fun ⟨n, v⟩ hy => by
    rcases S.par n (List.of_mem_zip hy).1 with q | q
    · exact .inl q
    · exact .inr ⟨q, PySem.W.cellsFrom_some _ _ _ (.inl q)⟩
  refine codeAny_call_function hr.depth (KX _ _ lk) rfl S.co S.gen rfl (PySem.W.codeRec_of KX hcd) (hb _ _ _ _ ?_)
  refine wpAny_with_toks (Nat.le_refl _) (wpAny_newFunctionEnv_cells S.kind hkind fun env he s1 x htk => ?_)
  subst he
  refine ⟨lim.keeps x.toInCall.keep, codeAny_func ?_⟩
  obtain ⟨t, ht, hq⟩ := hbody A outer s H vs Q E (hr.deeper _) hsp
  have I : Inv (cxOf CX P w K mg base N qual scope f cdv A outer s H E) [] (start N vs) H s1 := inv_start S hr.hd e0 hl r x htk
  refine wpAny_mono (ht [] s1 (start N vs) H _ I hq) (fun fl s' hs => ?_) fun e s' hs => hs
  have fin : ∀ {σ' : St} {H' : Hp} {v : V} {u : Value}, Inv (cxOf CX P w K mg base N qual scope f cdv A outer s H E) [] σ' H' s' → RelV v u → Q v H' → CE outer P w H s Q u s' :=
    fun {σ' H' v u} J rv q => ⟨v, H', J.os, J.bare, J.base, J.hok, rv, q⟩
  cases fl with
  | ret u =>
    obtain ⟨v, σ', H', J, rv, q⟩ := hs
    exact fin J rv q
  | next =>
    obtain ⟨σ', H', J, q⟩ := hs
    exact fin (v := V.non) (u := Value.none) J rfl q
  | brk =>
    obtain ⟨_, _, _, q⟩ := hs
    exact False.elim q
  | cont =>
    obtain ⟨_, _, _, q⟩ := hs
    exact False.elim q
end L2
namespace L2
open PySem PySem.Spec PyProof.Rows
section
variable {X : Cx} {x : Str} {p pos : Pos} {e : Expr} {es : List Expr} {t : TA} {id T : String} {r : List V → Hp → VK → Prop}
def tCB (r : List V → Hp → VK → Prop) (t : TA) : TE := fun σ H Q => t σ H fun vs H1 => r vs H1 Q
theorem pe_callB (hc : CallR X (.builtin id) r) (hg : Gl X x) (hm : X.mg x = none) (hv : bootBuiltins x = some (.builtin id)) (ha : PA X (e :: es) t) (hn : x ≠ "__name__" := by decide) (hdb : (x == ("__debug__" : Str)) = false := by decide)
    (he : starEach (e :: es) X.env = (false, eval e X.env) :: starEach es X.env := by rfl) (hpl : (backTo pos (starEach es X.env)).any (·.1) = false := by rfl) : PE X (.Call (.Name x p) (e :: es) [] pos) (tCB r t) := by
  intro pins s σ H Q I h
  refine wpAny_Call_Name_kw (ld_blt I hg hm hv ?_ hn hdb)
  exact PyProof.Rows.callWith_builtin1 (thn (ha pos pins s σ H _ I h) fun us s1 ⟨vs, H1, I1, r1, q1⟩ => hc pins s1 σ H1 vs us Q I1 r1 q1) he hpl
theorem pe_callTy (hc : CallR X (.type T) r) (hg : Gl X x) (hm : X.mg x = none) (hv : bootBuiltins x = some (.type T)) (ha : PA X (e :: es) t) (hn : x ≠ "__name__" := by decide) (hdb : (x == ("__debug__" : Str)) = false := by decide)
    (he : starEach (e :: es) X.env = (false, eval e X.env) :: starEach es X.env := by rfl) (hpl : (backTo pos (starEach es X.env)).any (·.1) = false := by rfl) : PE X (.Call (.Name x p) (e :: es) [] pos) (tCB r t) := by
  intro pins s σ H Q I h
  refine wpAny_Call_Name_kw (ld_blt I hg hm hv ?_ hn hdb)
  exact PyProof.Rows.callWith_type1 (thn (ha pos pins s σ H _ I h) fun us s1 ⟨vs, H1, I1, r1, q1⟩ => hc pins s1 σ H1 vs us Q I1 r1 q1) he hpl
end
end L2
namespace HT
open PySem PyProof.Rows
section
open PySem.SeqAt
open PySem.AutoSeq1 (wpAny_loadPart')
open PySem.MeetsSeq PySem.MeetsSeq2 PySem.MeetsSeq3
end
section
variable {prog : Program} {w : World} {A : Around} {E : Value → Shared → Prop} {s : Shared}
def sIx (n d : Nat) : Option Int → Nat
  | none => d
  | some v => if v < 0 then (v + (n : Int)).toNat else min v.toNat n
end
end HT
namespace L2
open PySem PySem.Spec PyProof.Rows
abbrev TO := St → Hp → (Option Int → Hp → Prop) → Prop
def PO (X : Cx) (e : Option Expr) (t : TO) : Prop :=
  ∀ (pins : List (Addr × Obj)) (s : Shared) (σ : St) (H : Hp) (Q : Option Int → Hp → Prop), Inv X pins σ H s → t σ H Q →
    wpAny (model X.prog X.w) X.A (evalPart e X.env) (fun u s' => ∃ o H', Inv X pins σ H' s' ∧ IsPart u o ∧ Q o H') X.xe s
def tNoPart : TO := fun _ H Q => Q none H
def tPart (t : TE) : TO := fun σ H Q => t σ H fun x H1 => ∃ i, x = .int i ∧ Q (some i) H1
section
variable {X : Cx} {e : Expr} {te : TE} {lo hi : Option Expr} {tl th : TO} {pos p2 : Pos}
theorem po_none : PO X none tNoPart := by
  intro pins s σ H Q I h
  rw [evalPart_none]
  exact wpAny_pure ⟨none, H, I, .none, h⟩
theorem po_some (h : PE X e te) : PO X (some e) (tPart te) := by
  intro pins s σ H Q I hw
  rw [evalPart_some]
  refine thn (h pins s σ H _ I hw) fun u s1 ⟨x, H1, I1, r1, q1⟩ => ?_
  obtain ⟨i, rfl, q⟩ := q1
  obtain ⟨t, rfl⟩ := r1
  exact ⟨some i, H1, I1, .int i t, q⟩
def SlR (X : Cx) (r : V → Option Int → Option Int → Hp → VK → Prop) : Prop :=
  ∀ (pins : List (Addr × Obj)) (s : Shared) (σ : St) (H : Hp) (x : V) (v vl vu : Value) (lo hi : Option Int) (sl : Addr) (Q : VK), Inv X pins σ H s → RelV x v → s.heap.IsSliceOf sl vl vu .none → IsPart vl lo → IsPart vu hi → r x lo hi H Q →
    ∃ T id, typeLookup (.type T) "__getitem__" = pure (some (.builtin id)) ∧ s.TypeIs v T ∧ wpAny (model X.prog X.w) X.A (getItem v (.ref sl)) (EP X pins σ Q) X.xe s
def tSl (r : V → Option Int → Option Int → Hp → VK → Prop) (te : TE) (tl th : TO) : TE := fun σ H Q => te σ H fun x H1 => tl σ H1 fun l H2 => th σ H2 fun u H3 => r x l u H3 Q
theorem pe_slice {r : V → Option Int → Option Int → Hp → VK → Prop} (hr : SlR X r) (he : PE X e te) (hl : PO X lo tl) (hu : PO X hi th) : PE X (.Subscript e (.Slice lo hi none p2) pos) (tSl r te tl th) := by
  intro pins s σ H Q I h
  refine Subscript_ (thn (he pins s σ H _ I h) fun v s1 ⟨x, H1, I1, r1, q1⟩ => ?_)
  refine wpAny_Slice (thn (hl pins s1 σ H1 _ I1 q1) fun vl s2 ⟨l, H2, I2, pl, q2⟩ => thn (hu pins s2 σ H2 _ I2 q2) fun vu s3 ⟨u, H3, I3, pu, q3⟩ => ?_)
  rw [evalPart_none]
  refine wpAny_pure ?_
  have I4 : Inv X pins σ H3 { s3 with heap := s3.heap.push { cls := .type "slice", data := .fields #[vl, vu, .none] } } := I3.kept (t' := s3.toks) fun b ob q => Heap.get?_push_of_some _ q
  obtain ⟨T, id, hT, ht, hg⟩ := hr pins { s3 with heap := s3.heap.push { cls := .type "slice", data := .fields #[vl, vu, .none] } } σ H3 x v vl vu l u s3.heap.objs.size Q I4 r1 (Heap.IsSliceOf.new ..) pl pu q3
  show wpAny (model X.prog X.w) X.A (subscriptTail e (.Slice lo hi none p2) v (.ref s3.heap.objs.size)) (EP X pins σ Q) X.xe { s3 with heap := s3.heap.push { cls := .type "slice", data := .fields #[vl, vu, .none] } }
  exact tail_any (ops := [.ref s3.heap.objs.size, v]) ht hT hg (by with_unfolding_all rfl)
def cutV (xs : List V) (lo hi : Option Int) : List V := (xs.drop (HT.sIx xs.length 0 lo)).take (HT.sIx xs.length xs.length hi - HT.sIx xs.length 0 lo)
theorem cutV_length (xs : List V) (lo hi : Option Int) : (cutV xs lo hi).length ≤ xs.length := by
  unfold cutV
  rw [List.length_take, List.length_drop]
  omega
end
end L2
namespace L2
open PySem PySem.Spec PyProof.Rows
def ixN (n : Nat) (i : Int) : Option Nat := if 0 ≤ i then (if i < n then some i.toNat else none) else if -(n : Int) ≤ i then some (i + n).toNat else none
def atI {α : Type} (xs : List α) (i : Int) : Option α := (ixN xs.length i).bind fun j => xs[j]?
theorem ixN_seq {n : Nat} {i : Int} {j : Nat} (h : ixN n i = some j) : seqIndex? i n = some j ∧ j < n ∧ -(n : Int) ≤ i ∧ i < n := by
  unfold ixN at h
  by_cases h0 : 0 ≤ i
  · rw [if_pos h0] at h
    by_cases h1 : i < n
    · rw [if_pos h1] at h
      have e : i.toNat = j := Option.some.inj h
      exact ⟨by rw [seqIndex_of h0 h1, e], by omega, by omega, h1⟩
    · rw [if_neg h1] at h; cases h
  · rw [if_neg h0] at h
    by_cases h1 : -(n : Int) ≤ i
    · rw [if_pos h1] at h
      have e : (i + n).toNat = j := Option.some.inj h
      exact ⟨by rw [seqIndex_neg (by omega) h1, e], by omega, h1, by omega⟩
    · rw [if_neg h1] at h; cases h
theorem atI_get {α : Type} {xs : List α} {i : Int} {v : α} (h : atI xs i = some v) : ∃ j, seqIndex? i xs.length = some j ∧ xs[j]? = some v ∧ j < xs.length ∧ -(xs.length : Int) ≤ i ∧ i < xs.length := by
  unfold atI at h
  cases e : ixN xs.length i with
  | none => rw [e] at h; cases h
  | some j =>
    rw [e] at h
    obtain ⟨h1, h2, h3, h4⟩ := ixN_seq e
    exact ⟨j, h1, h, h2, h3, h4⟩
theorem atI_nat {α : Type} {xs : List α} {j : Nat} {v : α} (h : xs[j]? = some v) : atI xs (j : Int) = some v := by
  have hj : j < xs.length := (List.getElem?_eq_some_iff.mp h).1
  have e : ixN xs.length (j : Int) = some j := by
    unfold ixN
    rw [if_pos (by omega), if_pos (by omega)]; simp
  unfold atI; rw [e]; exact h
def PlainIx (b : Expr) : Prop := ∀ o i, subscripted b false o i = operate [o, i] (getItem o i)
def IxR (X : Cx) (r : R2) : Prop :=
  ∀ (value slice : Expr) (pins : List (Addr × Obj)) (s : Shared) (σ : St) (H : Hp) (x y : V) (v u : Value) (Q : VK), Inv X pins σ H s → RelV x v → RelV y u → r x y H Q →
    subscripted slice false v u = operate [v, u] (getItem v u) → wpAny (model X.prog X.w) X.A (subscriptTail value slice v u) (EP X pins σ Q) X.xe s
def MtR (X : Cx) (id : String) (r : V → List V → Hp → VK → Prop) : Prop :=
  ∀ (pins : List (Addr × Obj)) (s : Shared) (σ : St) (H : Hp) (x : V) (xs : List V) (v : Value) (us : List Value) (Q : VK), Inv X pins σ H s → RelV x v → Vals xs us → r x xs H Q →
    wpAny (model X.prog X.w) X.A (call (.builtin id) (v :: us)) (EP X pins σ Q) X.xe s
section
variable {X : Cx} {a b : Expr} {ta tb : TE} {pos : Pos}
theorem pe_ix {r : R2} (hr : IxR X r) (ha : PE X a ta) (hb : PE X b tb) (hs : PlainIx b) : PE X (.Subscript a b pos) (tOp r ta tb) := by
  intro pins s σ H Q I h
  exact Subscript_ (binT ha hb I h fun v u s2 x y H2 I2 rx ry q => hr a b pins s2 σ H2 x y v u Q I2 rx ry q (hs _ _))
def rIxL (K : PySem.W.Frag) : R2 := fun x y H Q => ∃ p xs i v, x = .ref p ∧ y = .int i ∧ SqL K H p xs ∧ atI xs i = some v ∧ Q v H
def rIxT (K : PySem.W.Frag) : R2 := fun x y H Q => ∃ p xs i v, x = .ref p ∧ y = .int i ∧ SqT K H p xs ∧ atI xs i = some v ∧ Q v H
def rIxS : R2 := fun x y H Q => ∃ z i c, x = .str z ∧ y = .int i ∧ z.length ≤ sizeLine ∧ atI z.cps.toList i = some c ∧ Q (.str ⟨#[c]⟩) H
theorem ix_list : IxR X (rIxL X.K) := by
  intro value slice pins s σ H x y v u Q I rx ry h hs
  obtain ⟨p, xs, i, z, rfl, rfl, hq, he, q⟩ := h
  cases rx
  obtain ⟨t, rfl⟩ := ry
  obtain ⟨its, r, pl, hz⟩ := I.list hq
  obtain ⟨j, h1, h2, h3, h4, h5⟩ := atI_get he
  obtain ⟨w, ew, rw'⟩ := r.get h2
  have hl := r.length
  have hn := line63
  have fin : EP X pins σ Q w s := ⟨z, H, I, rw', q⟩
  by_cases h0 : 0 ≤ i
  · have hj : i.toNat = j := by
      rw [seqIndex_of h0 h5] at h1
      exact Option.some.inj h1
    exact item_listR pl.isList h0 (by omega) (by rw [hj]; simpa using ew) fin hs
  · have hj : (i + (its.toArray.size : Int)).toNat = j := by
      rw [seqIndex_neg (by omega) h4] at h1
      rw [List.size_toArray, ← hl]
      exact Option.some.inj h1
    exact subscriptTail_builtinR (x := w) pl.isList.typeIs slot_list_getitem.lookup
      (wpAny_getItem_list_neg (Q := fun r s' => r = w ∧ EP X pins σ Q r s') pl.isList (by omega) (by rw [List.size_toArray] <;> omega) (by omega) (by rw [hj]; simpa using ew) ⟨rfl, fin⟩) hs
theorem ix_tup : IxR X (rIxT X.K) := by
  intro value slice pins s σ H x y v u Q I rx ry h hs
  obtain ⟨p, xs, i, z, rfl, rfl, hq, he, q⟩ := h
  cases rx
  obtain ⟨t, rfl⟩ := ry
  obtain ⟨its, r, pl, hz⟩ := I.tuple hq
  obtain ⟨j, h1, h2, h3, h4, h5⟩ := atI_get he
  obtain ⟨w, ew, rw'⟩ := r.get h2
  have hl := r.length
  have hn := line63
  have fin : EP X pins σ Q w s := ⟨z, H, I, rw', q⟩
  exact subscriptTail_builtinR (x := w) pl.typeIs slot_tuple_getitem.lookup
    (getItem_tuple (j := j) (Q := fun r s' => r = w ∧ EP X pins σ Q r s') pl (by omega) (by omega) (by rw [List.size_toArray, ← hl]; exact h1) (by simpa using ew) ⟨rfl, fin⟩) hs
theorem ix_str : IxR X rIxS := by
  intro value slice pins s σ H x y v u Q I rx ry h hs
  obtain ⟨z, i, c, rfl, rfl, hz, he, q⟩ := h
  obtain ⟨t, rfl⟩ := rx
  obtain ⟨t', rfl⟩ := ry
  obtain ⟨j, h1, h2, h3, h4, h5⟩ := atI_get he
  have hl : z.cps.toList.length = z.length := by simp [Str.length]
  rw [hl] at h1 h4 h5
  have hn := line63
  exact tail_any (typeIs_str s z t) slot_str_getitem.lookup (getItem_str (c := c) (by
    have e1 : decide (i < -(2 ^ 63 : Int)) = false := decide_eq_false (by omega)
    have e2 : decide (i ≥ 2 ^ 63) = false := decide_eq_false (by omega)
    rw [e1, e2, Bool.or_false]) (by rw [h1]; simpa using h2) ⟨.str ⟨#[c]⟩, H, I.tok _, ⟨_, rfl⟩, q⟩) hs
theorem Inv.lst {pins : List (Addr × Obj)} {σ : St} {H : Hp} {s : Shared} {p : Addr} {xs : List V} (I : Inv X pins σ H s) (h : H p = some (.lst xs)) :
    ∃ (its : List Value) (n : Nat), Vals xs its ∧ s.heap.get? p = some { cls := .type "list", data := .seq its.toArray n } ∧ xs.length ≤ sizeLine := by
  obtain ⟨z, its, n, r, e⟩ := I.hok p _ h
  exact ⟨its, n, r, e, z⟩
theorem slice_bounds (lo hi : Option Int) (n : Nat) : (sliceBounds lo hi none n).1 = ((HT.sIx n 0 lo : Nat) : Int) ∧ (sliceBounds lo hi none n).2.1 = ((HT.sIx n n hi : Nat) : Int) ∧ (sliceBounds lo hi none n).2.2 = 1 := by
  refine ⟨?_, ?_, rfl⟩
  · cases lo with
    | none => simp [sliceBounds, HT.sIx]
    | some i =>
      simp only [sliceBounds, HT.sIx, Option.getD_none, show (1 : Int) > 0 by decide, if_true]
      by_cases h : i < 0
      · simp only [h, if_true] <;> omega
      · simp only [h, if_false] <;> omega
  · cases hi with
    | none => simp [sliceBounds, HT.sIx]
    | some i =>
      simp only [sliceBounds, HT.sIx, Option.getD_none, show (1 : Int) > 0 by decide, if_true]
      by_cases h : i < 0
      · simp only [h, if_true] <;> omega
      · simp only [h, if_false] <;> omega
theorem slicePick_cut (its : List Value) (lo hi : Option Int) : slicePick its.toArray lo hi none = ((its.drop (HT.sIx its.length 0 lo)).take (HT.sIx its.length its.length hi - HT.sIx its.length 0 lo)).toArray := by
  obtain ⟨h1, h2, h3⟩ := slice_bounds lo hi its.toArray.size
  unfold slicePick
  rw [h1, h2, h3]
  simp only [sliceRange_one, pick_run, List.size_toArray] <;> rfl
def rSlL (K : PySem.W.Frag) : V → Option Int → Option Int → Hp → VK → Prop := fun x lo hi H Q => ∃ a xs, x = .ref a ∧ SqL K H a xs ∧ ∀ p, H p = none → Q (.ref p) (upd H p (.lst (cutV xs lo hi)))
theorem sl_list : SlR X (rSlL X.K) := by
  intro pins s σ H x v vl vu lo hi sl Q I rx hs pl pu h
  obtain ⟨a, xs, rfl, hx, q⟩ := h
  cases rx
  obtain ⟨its, r, ht, hz⟩ := I.list hx
  have hlen := r.length
  refine ⟨"list", _, slot_list_getitem.lookup, ht.isList.typeIs, ?_⟩
  refine wpAny_getItem_list_slice ht.isList hs pl pu .none (by simp) ?_ (by rw [List.size_toArray] <;> omega)
  rw [slicePick_cut, ← hlen]
  refine ⟨.ref s.heap.objs.size, _, I.laid (t' := s.toks) (o := .lst (cutV xs lo hi)) (fun b ob q => Heap.get?_push_of_some _ q) (Nat.le_refl _) ?_, rfl, q _ (I.hok.fresh (Nat.le_refl _))⟩
  exact ⟨Nat.le_trans (cutV_length xs lo hi) hz, _, 0, (r.drop (HT.sIx xs.length 0 lo)).take (HT.sIx xs.length xs.length hi - HT.sIx xs.length 0 lo), Heap.get?_push_size _ rfl⟩
def flatV : V → Bool
  | .non => true
  | .bl _ => true
  | .int _ => true
  | .str _ => true
  | _ => false
def eqV : V → V → Bool
  | .non, .non => true
  | .bl a, .bl b => a == b
  | .bl a, .int b => (if a then 1 else 0) == b
  | .int a, .bl b => a == (if b then 1 else 0)
  | .int a, .int b => a == b
  | .str a, .str b => a == b
  | _, _ => false
theorem eqAt_V {A : Around} {s : Shared} {y x : V} {u v : Value} (ry : RelV y u) (rx : RelV x v) (fy : flatV y = true) (fx : flatV x = true) : SeqAt.EqAt A s u v (eqV y x) := by
  cases y with
  | non =>
    cases ry
    cases x with
    | non => cases rx; exact SeqAt.EqAt.same _
    | bl b => cases rx; exact SeqAt.EqAt.none_bool b
    | int b => obtain ⟨t, rfl⟩ := rx; exact SeqAt.EqAt.none_int b t
    | str b => obtain ⟨t, rfl⟩ := rx; exact SeqAt.EqAt.none_str b t
    | _ => exact absurd (show false = true from fx) Bool.false_ne_true
  | bl a =>
    cases ry
    cases x with
    | non => cases rx; exact SeqAt.EqAt.bool_none a
    | bl b => cases rx; exact SeqAt.EqAt.bool_bool a b
    | int b => obtain ⟨t, rfl⟩ := rx; exact SeqAt.EqAt.bool_int a b t
    | str b => obtain ⟨t, rfl⟩ := rx; exact SeqAt.EqAt.bool_str a b t
    | _ => exact absurd (show false = true from fx) Bool.false_ne_true
  | int a =>
    obtain ⟨t', rfl⟩ := ry
    cases x with
    | non => cases rx; exact SeqAt.EqAt.int_none a t'
    | bl b => cases rx; exact SeqAt.EqAt.int_bool a t' b
    | int b => obtain ⟨t, rfl⟩ := rx; exact SeqAt.EqAt.int_int a t' b t
    | str b => obtain ⟨t, rfl⟩ := rx; exact SeqAt.EqAt.int_str a t' b t
    | _ => exact absurd (show false = true from fx) Bool.false_ne_true
  | str a =>
    obtain ⟨t', rfl⟩ := ry
    cases x with
    | non => cases rx; exact SeqAt.EqAt.str_none a t'
    | bl b => cases rx; exact SeqAt.EqAt.str_bool a t' b
    | int b => obtain ⟨t, rfl⟩ := rx; exact SeqAt.EqAt.str_int a t' b t
    | str b => obtain ⟨t, rfl⟩ := rx; exact SeqAt.EqAt.str_str a t' b t
    | _ => exact absurd (show false = true from fx) Bool.false_ne_true
  | _ => exact absurd (show false = true from fy) Bool.false_ne_true
def eqU (x : V) (u : Value) : Bool := match u with
  | .none => eqV .non x
  | .bool b => eqV (.bl b) x
  | .int i _ => eqV (.int i) x
  | .str z _ => eqV (.str z) x
  | _ => false
theorem eqU_of {x y : V} {u : Value} (r : RelV y u) (f : flatV y = true) : eqU x u = eqV y x := by
  cases y with
  | non => cases r; rfl
  | bl b => cases r; rfl
  | int i => obtain ⟨t, rfl⟩ := r; rfl
  | str z => obtain ⟨t, rfl⟩ := r; rfl
  | _ => exact absurd (show false = true from f) Bool.false_ne_true
theorem any_eqU {x : V} : ∀ {xs : List V} {us : List Value}, Vals xs us → xs.all flatV = true → us.any (eqU x) = xs.any fun y => eqV y x
  | _, _, .nil, _ => rfl
  | y :: xs, u :: us, .cons r t, f => by
    rw [List.all_cons, Bool.and_eq_true] at f
    rw [List.any_cons, List.any_cons, eqU_of r f.1, any_eqU t f.2]
theorem mem_eqAt {A : Around} {s : Shared} {x : V} {v : Value} (rx : RelV x v) (fx : flatV x = true) : ∀ {xs : List V} {us : List Value}, Vals xs us → xs.all flatV = true → ∀ u ∈ us, SeqAt.EqAt A s u v (eqU x u)
  | _, _, .nil, _ => fun u hu => by cases hu
  | y :: xs, u :: us, .cons r t, f => fun u' hu => by
    rw [List.all_cons, Bool.and_eq_true] at f
    rcases List.mem_cons.mp hu with rfl | hu
    · rw [eqU_of r f.1]; exact eqAt_V r rx f.1 fx
    · exact mem_eqAt rx fx t f.2 u' hu
def inV (x : V) (xs : List V) : Bool := xs.any fun y => eqV y x
def rIn (K : PySem.W.Frag) (neg : Bool) : R2 := fun x y H Q => ∃ p xs, y = .ref p ∧ (SqL K H p xs ∨ SqT K H p xs) ∧ flatV x = true ∧ xs.all flatV = true ∧ Q (.bl (if neg then !inV x xs else inV x xs)) H
theorem op_in_seq : OpR X (compareOp .In) (rIn X.K false) := by
  intro pins s σ H x y v u Q I rx ry h
  obtain ⟨p, xs, rfl, hq, fx, fs, q⟩ := h
  cases ry
  rcases hq with hq | hq
  · obtain ⟨its, r, pl, hz⟩ := I.list hq
    refine SeqAt.in_listAt (eqU x) pl.isList (fun w hw => mem_eqAt rx fx r fs w (by simpa using hw)) ⟨.bl _, H, I, rfl, ?_⟩
    rw [show its.toArray.any (eqU x) = its.any (eqU x) by simp, any_eqU r fs]
    exact q
  · obtain ⟨its, r, pl, hz⟩ := I.tuple hq
    refine SeqAt.in_tupleAt (eqU x) pl (fun w hw => mem_eqAt rx fx r fs w (by simpa using hw)) ⟨.bl _, H, I, rfl, ?_⟩
    rw [show its.toArray.any (eqU x) = its.any (eqU x) by simp, any_eqU r fs]
    exact q
theorem op_notIn_seq : OpR X (compareOp .NotIn) (rIn X.K true) := by
  intro pins s σ H x y v u Q I rx ry h
  obtain ⟨p, xs, rfl, hq, fx, fs, q⟩ := h
  cases ry
  rcases hq with hq | hq
  · obtain ⟨its, r, pl, hz⟩ := I.list hq
    refine SeqAt.notIn_listAt (eqU x) pl.isList (fun w hw => mem_eqAt rx fx r fs w (by simpa using hw)) ⟨.bl _, H, I, rfl, ?_⟩
    rw [show its.toArray.any (eqU x) = its.any (eqU x) by simp, any_eqU r fs]
    exact q
  · obtain ⟨its, r, pl, hz⟩ := I.tuple hq
    refine SeqAt.notIn_tupleAt (eqU x) pl (fun w hw => mem_eqAt rx fx r fs w (by simpa using hw)) ⟨.bl _, H, I, rfl, ?_⟩
    rw [show its.toArray.any (eqU x) = its.any (eqU x) by simp, any_eqU r fs]
    exact q
theorem call_len_seq : CallR X (.builtin "len") (fun xs H Q => ∃ p ys, xs = [.ref p] ∧ (SqL X.K H p ys ∨ SqT X.K H p ys) ∧ Q (.int ys.length) H) := by
  intro pins s σ H xs us Q I r h
  obtain ⟨p, ys, rfl, hq, q⟩ := h
  obtain ⟨u, rfl, rx⟩ := vals1 r
  cases rx
  have hn := line63
  rcases hq with hq | hq
  · obtain ⟨its, r', pl, hz⟩ := I.list hq
    have hlen := r'.length
    exact Calls.call_len_list pl.isList (by simp only [List.size_toArray] <;> omega) ⟨.int ys.length, H, I.tok _, ⟨s.toks + 1, by rw [List.size_toArray, hlen]⟩, q⟩
  · obtain ⟨its, r', pl, hz⟩ := I.tuple hq
    have hlen := r'.length
    exact len_tuple pl (by simp only [List.size_toArray] <;> omega) ⟨.int ys.length, H, I.tok _, ⟨s.toks + 1, by rw [List.size_toArray, hlen]⟩, q⟩
theorem call_len_str : CallR X (.builtin "len") (fun xs H Q => ∃ z, xs = [.str z] ∧ z.length ≤ sizeLine ∧ Q (.int z.length) H) := by
  intro pins s σ H xs us Q I r h
  obtain ⟨z, rfl, hz, q⟩ := h
  obtain ⟨u, rfl, t, rfl⟩ := vals1 r
  have hn := line63
  exact len_str (by omega) ⟨.int z.length, H, I.tok _, ⟨_, rfl⟩, q⟩
theorem call_list_of : CallR X (.type "list") (fun xs H Q => ∃ p ys, xs = [.ref p] ∧ (SqL X.K H p ys ∨ SqT X.K H p ys) ∧ ∀ l, H l = none → Q (.ref l) (upd H l (.lst ys))) := by
  intro pins s σ H xs us Q I r h
  obtain ⟨p, ys, rfl, hq, q⟩ := h
  obtain ⟨u, rfl, rx⟩ := vals1 r
  cases rx
  have fin : ∀ (its : List Value), Vals ys its → ys.length ≤ sizeLine → ∀ (h' : Heap) (c' : Nat), (∀ b o', s.heap.get? b = some o' → h'.get? b = some o') →
      h'.get? s.heap.objs.size = some { cls := .type "list", dict := none, data := .seq its.toArray c', slots := #[] } → EP X pins σ Q (.ref s.heap.objs.size) { s with heap := h' } := fun its r' hz h' c' kp e =>
    ⟨.ref s.heap.objs.size, _, I.laid (t' := s.toks) kp (Nat.le_refl _) (show ObjOk X.prog X.w _ h' _ (.lst ys) from ⟨hz, its, c', r', e⟩), rfl, q _ (I.hok.fresh (Nat.le_refl _))⟩
  rcases hq with hq | hq
  · obtain ⟨its, r', pl, hz⟩ := I.list hq
    have hlen := r'.length
    obtain ⟨o, ho, hc, n, hd⟩ := pl.isList
    exact call_list_seq p (.inl rfl) ho hc hd (fun h' c' kp e => fin its r' hz h' c' kp e) (by simp only [List.size_toArray] <;> omega)
  · obtain ⟨its, r', pl, hz⟩ := I.tuple hq
    have hlen := r'.length
    obtain ⟨o, ho, hc, n, hd⟩ := pl
    exact call_list_seq p (.inr rfl) ho hc hd (fun h' c' kp e => fin its r' hz h' c' kp e) (by simp only [List.size_toArray] <;> omega)
theorem call_tuple_of : CallR X (.type "tuple") (fun xs H Q => ∃ p ys, xs = [.ref p] ∧ ((SqL X.K H p ys ∧ ∀ l, H l = none → Q (.ref l) (upd H l (.tup ys))) ∨ (SqT X.K H p ys ∧ Q (.ref p) H))) := by
  intro pins s σ H xs us Q I r h
  obtain ⟨p, ys, rfl, h⟩ := h
  obtain ⟨u, rfl, rx⟩ := vals1 r
  cases rx
  rcases h with ⟨hq, q⟩ | ⟨hq, q⟩
  · obtain ⟨its, r', pl, hz⟩ := I.list hq
    have hlen := r'.length
    refine call_tuple_list pl.isList (fun h' kp => ?_) (by simp only [List.size_toArray] <;> omega)
    have I1 : Inv X pins σ H { s with heap := h' } := I.kept (t' := s.toks) kp
    have I2 : Inv X pins σ (upd H h'.objs.size (.tup ys)) { s with heap := h'.push { cls := .type "tuple", data := .seq its.toArray } } :=
      I1.laid (t' := s.toks) (fun b o e => Heap.get?_push_of_some _ e) (Nat.le_refl _) (show ObjOk X.prog X.w _ _ _ (.tup ys) from ⟨hz, its, r', IsTup.new _ _⟩)
    exact ⟨.ref h'.objs.size, _, I2, rfl, q _ (I1.hok.fresh (Nat.le_refl _))⟩
  · obtain ⟨its, r', pl, hz⟩ := I.tuple hq
    exact call_tuple_same pl ⟨.ref p, H, I, rfl, q⟩
def tyV (K : PySem.W.Frag) (T : String) (x : V) (H : Hp) : Prop := match x with
  | .str _ => T = "str"
  | .int _ => T = "int"
  | .ref p => (T = "list" ∧ ∃ xs, SqL K H p xs) ∨ (T = "tuple" ∧ ∃ o, K.lookup p = some o ∧ o.cls = .type "tuple" ∧ o.dict = none) ∨
      (T = "dict" ∧ ((∃ kvs, H p = some (.dK kvs)) ∨ ∃ kvs, H p = some (.dT kvs))) ∨ (T = "set" ∧ ∃ S n, H p = some (.set S n))
  | _ => False
theorem tyV_is {pins : List (Addr × Obj)} {σ : St} {H : Hp} {s : Shared} {T : String} {x : V} {v : Value} (I : Inv X pins σ H s) (r : RelV x v) (ty : tyV X.K T x H) :
    s.TypeIs v T ∧ ∀ a, v = .ref a → ∃ ob, s.heap.get? a = some ob ∧ ob.dict = none := by
  cases x with
  | str z =>
    obtain ⟨t, rfl⟩ := r
    cases (show T = "str" from ty)
    exact ⟨typeIs_str s z t, fun _ e => nomatch e⟩
  | int i =>
    obtain ⟨t, rfl⟩ := r
    cases (show T = "int" from ty)
    exact ⟨typeIs_int s i t, fun _ e => nomatch e⟩
  | ref p =>
    cases r
    rcases ty with ⟨rfl, xs, hq⟩ | ⟨rfl, o, hk, hc, hd⟩ | ⟨rfl, hk⟩ | ⟨rfl, S, n, hk⟩
    · obtain ⟨its, _, pl, _⟩ := I.list hq
      refine ⟨pl.isList.typeIs, fun a e => ?_⟩
      cases e
      obtain ⟨o, n, e, c, hd, _⟩ := pl
      exact ⟨o, e, hd⟩
    · refine ⟨⟨o, I.kIn p o hk, hc⟩, fun a e => ?_⟩
      cases e
      exact ⟨o, I.kIn _ o hk, hd⟩
    · have z : ∃ o, s.heap.get? p = some o ∧ o.ExactDict := by
        rcases hk with ⟨kvs, hk⟩ | ⟨kvs, hk⟩
        · obtain ⟨_, _, _, _, o, _, _, e, ex, _⟩ := I.hok p _ hk
          exact ⟨o, e, ex⟩
        · obtain ⟨_, _, _, _, o, _, _, e, ex, _⟩ := I.hok p _ hk
          exact ⟨o, e, ex⟩
      obtain ⟨o, e, ex⟩ := z
      refine ⟨⟨o, e, ex.1⟩, fun a e2 => ?_⟩
      cases e2
      exact ⟨o, e, ex.2.1⟩
    · obtain ⟨o, _, _, _, e, ex, _⟩ := I.hok p _ hk
      refine ⟨⟨o, e, ex.1⟩, fun a e2 => ?_⟩
      cases e2
      exact ⟨o, e, ex.2.1⟩
  | _ => exact False.elim ty
def tBM (K : PySem.W.Frag) (T : String) (r : V → List V → Hp → VK → Prop) (to : TE) (t : TA) : TE := fun σ H Q => to σ H fun x H1 => tyV K T x H1 ∧ t σ H1 fun xs H2 => r x xs H2 Q
variable {o e : Expr} {es : List Expr} {to : TE} {t : TA} {name : Str} {apos cpos : Pos} {T id : String} {r : V → List V → Hp → VK → Prop}
theorem pe_bm (pa : PlainAttrs T) (slot : Slot T name id) (hty : typeOf (.builtin id) = pure (.type "method_descriptor")) (hm : MtR X id r) (ho : PE X o to) (ha : PA X (e :: es) t)
    (hbase : attributeBase o name X.env (eval o X.env) = eval o X.env := by rfl)
    (hfew : ((backTo cpos (starEach (e :: es) X.env)).all (fun x => !x.1) && (backToKw cpos (keywordEach [] X.env)).all (fun x => x.1.isSome)
      && decide ((e :: es).length + ([] : List Keyword).length + (if ([] : List Keyword).isEmpty then 0 else 1) < 30)) = true := by rfl)
    (hline : (apos.endLine == cpos.line) = true := by rfl) (hs : starEach (e :: es) X.env = (false, eval e X.env) :: starEach es X.env := by rfl) (hplain : (backTo cpos (starEach es X.env)).any (·.1) = false := by rfl) :
    PE X (.Call (.Attribute o name apos) (e :: es) [] cpos) (tBM X.K T r to t) := by
  intro pins s σ H Q I h
  refine wpAny_Call_method_late hbase hfew hline rfl (thn (ho pins s σ H _ I h) fun v s1 ⟨x, H1, I1, r1, ty, q1⟩ => ?_)
  obtain ⟨h1, h2⟩ := tyV_is I1 r1 ty
  refine ⟨T, id, pa, slot, hty, h1, h2, ?_⟩
  have hA := ha cpos pins s1 σ H1 _ I1 q1
  rw [hs] at hA ⊢
  refine Calls.callWith_builtin (by show (false || (backTo cpos (starEach es X.env)).any (·.1)) = false; rw [hplain] <;> rfl) (Calls.evalArgs_plain ?_)
  exact thn hA fun us s2 ⟨vs, H2, I2, r2, q2⟩ => hm pins s2 σ H2 x vs v us Q I2 r1 r2 q2
end
end L2
namespace L2
open PySem PySem.Spec PyProof.Rows
def MtM (X : Cx) (id : String) (r : V → List V → Hp → VK → Prop) : Prop :=
  ∀ (pins : List (Addr × Obj)) (s : Shared) (σ : St) (H : Hp) (x : V) (xs : List V) (v : Value) (us : List Value) (Q : VK), Inv X pins σ H s → RelV x v → Vals xs us → r x xs H Q →
    wpAny (model X.prog X.w) X.A (call (.builtin id) (v :: us)) (EP X pins σ Q) X.xe s
theorem Vals.one : ∀ {x : V} {us : List Value}, Vals [x] us → ∃ u, us = [u] ∧ RelV x u
  | _, _, .cons r .nil => ⟨_, rfl, r⟩
theorem Vals.zero : ∀ {us : List Value}, Vals [] us → us = []
  | _, .nil => rfl
theorem Vals.eraseIdx : ∀ {xs : List V} {us : List Value} (i : Nat), Vals xs us → Vals (xs.eraseIdx i) (us.eraseIdx i)
  | _, _, _, .nil => .nil
  | _, _, 0, .cons _ t => t
  | _, _, i + 1, .cons r t => .cons r (Vals.eraseIdx i t)
theorem Vals.reverse {xs : List V} {us : List Value} (h : Vals xs us) : Vals xs.reverse us.reverse := by
  induction h with
  | nil => exact .nil
  | cons r t ih => rw [List.reverse_cons, List.reverse_cons]; exact Vals.append ih (.cons r .nil)
theorem len_erase {α : Type} : ∀ (l : List α) (i : Nat), (l.eraseIdx i).length ≤ l.length
  | [], _ => Nat.le_refl _
  | _ :: _, 0 => Nat.le_succ _
  | _ :: r, i + 1 => Nat.succ_le_succ (len_erase r i)
section
variable {X : Cx} {pins : List (Addr × Obj)} {σ : St} {H : Hp} {s : Shared} {l b : Addr} {xs ys zs : List V}
theorem Inv.lset {its its' : List Value} {n : Nat} {f : Array Value → Array Value} {t' : Nat} (I : Inv X pins σ H s) (hH : H l = some (.lst xs))
    (e : s.heap.get? l = some { cls := .type "list", data := .seq its.toArray n }) (hf : f its.toArray = its'.toArray) (hv : Vals ys its') (hz : ys.length ≤ sizeLine) (ht : s.toks ≤ t' := by first | exact Nat.le_refl _ | exact Nat.le_succ _ | assumption | omega) :
    Inv X pins σ (upd H l (.lst ys)) { s with heap := s.heap.update l (Obj.mapSeq f), toks := t' } := by
  have q := PySem.IsL.update e f
  rw [hf] at q
  refine I.write (x := l) (e := l) (by rw [hH]; exact trivial) (.inl rfl) (fun b' u hb hu => (Heap.get?_update_other s.heap (Obj.mapSeq f) (Ne.symm hb)).trans hu) ⟨_, q⟩ ?_
  exact ⟨hz, its', _, hv, q⟩
theorem Inv.lnew {its : List Value} {t' : Nat} (I : Inv X pins σ H s) (hv : Vals ys its) (hz : ys.length ≤ sizeLine) (ht : s.toks ≤ t' := by first | exact Nat.le_refl _ | exact Nat.le_succ _ | assumption | omega) :
    Inv X pins σ (upd H s.heap.objs.size (.lst ys)) { s with heap := s.heap.push { cls := .type "list", data := .seq its.toArray }, toks := t' } :=
  I.laid (fun _ _ q => Heap.get?_push_of_some _ q) (Nat.le_refl _) ⟨hz, its, 0, hv, Heap.get?_push_size _ rfl⟩
theorem Inv.fresh (I : Inv X pins σ H s) : H s.heap.objs.size = none := I.hok.fresh (Nat.le_refl _)
theorem Inv.lstM (I : Inv X pins σ H s) (hH : H l = some (.lst xs)) : xs.length ≤ sizeLine ∧ ∃ (its : List Value) (n : Nat), Vals xs its ∧ xs.length = its.length ∧ s.heap.get? l = some { cls := .type "list", data := .seq its.toArray n } := by
  obtain ⟨z, its, n, r, e⟩ := I.hok l _ hH
  exact ⟨z, its, n, r, r.length, e⟩
end
section
variable {X : Cx}
def rAppend : V → List V → Hp → VK → Prop := fun x vs H Q => ∃ l xs y, x = .ref l ∧ vs = [y] ∧ H l = some (.lst xs) ∧ xs.length < sizeLine ∧ Q .non (upd H l (.lst (xs ++ [y])))
theorem mt_append : MtM X "list.append" rAppend := by
  intro pins s σ H x vs v us Q I rx rv h
  obtain ⟨l, xs, y, rfl, rfl, hH, hz, q⟩ := h
  cases rx
  obtain ⟨u, rfl, ru⟩ := rv.one
  obtain ⟨z, its, n, r, hl, e⟩ := I.lstM hH
  refine call_meets F.slot_list_append ⟨_, e, rfl⟩ F.entry_list_append (F.args_list_append_2 _ _) (PySem.list_append l its.toArray n u (by rw [List.size_toArray]; omega)) ⟨e, ?_⟩
  refine ⟨.non, _, I.lset (its' := its ++ [u]) hH e (by simp) (r.append (.cons ru .nil)) ?_, rfl, q⟩
  rw [List.length_append, List.length_singleton]
  omega
def rPopAt : V → List V → Hp → VK → Prop := fun x vs H Q => ∃ l xs i k y, x = .ref l ∧ vs = [.int i] ∧ H l = some (.lst xs) ∧ -(2 ^ 63) ≤ i ∧ i < 2 ^ 63 ∧ seqIndex? i xs.length = some k ∧ xs[k]? = some y ∧ Q y (upd H l (.lst (xs.eraseIdx k)))
theorem mt_popAt : MtM X "list.pop" rPopAt := by
  intro pins s σ H x vs v us Q I rx rv h
  obtain ⟨l, xs, i, k, y, rfl, rfl, hH, h1, h2, hk, hy, q⟩ := h
  cases rx
  obtain ⟨u, rfl, ru⟩ := rv.one
  obtain ⟨t, rfl⟩ := ru
  obtain ⟨z, its, n, r, hl, e⟩ := I.lstM hH
  obtain ⟨w, hw, rw'⟩ := r.get hy
  refine call_meets F.slot_list_pop ⟨_, e, rfl⟩ F.entry_list_pop (F.args_list_pop_2 _ _)
    (MeetsSeq.list_pop_at l its.toArray n i t k w (fitsIndex_both h1 h2) (by rw [List.size_toArray, ← hl]; exact hk) (by rw [← Array.getElem?_toList]; exact hw) (by rw [List.size_toArray]; omega)) ⟨e, ?_⟩
  refine ⟨y, _, I.lset (its' := its.eraseIdx k) hH e ?_ (r.eraseIdx k) ?_, rw', q⟩
  · show its.toArray.eraseIdxIfInBounds k = (its.eraseIdx k).toArray
    rw [List.eraseIdxIfInBounds_toArray]
  · have := len_erase xs k
    omega
def rCat : R2 := fun x y H Q => ∃ l b xs zs, x = .ref l ∧ y = .ref b ∧ H l = some (.lst xs) ∧ H b = some (.lst zs) ∧ xs.length + zs.length ≤ sizeLine ∧ ∀ p, H p = none → Q (.ref p) (upd H p (.lst (xs ++ zs)))
theorem op_cat : OpR X (binaryOp .Add) rCat := by
  intro pins s σ H x y v u Q I rx ry h
  obtain ⟨l, b, xs, zs, rfl, rfl, hH, hB, hz, q⟩ := h
  cases rx
  cases ry
  obtain ⟨z, its, n, r, hl, e⟩ := I.lstM hH
  obtain ⟨z2, its2, n2, r2, hl2, e2⟩ := I.lstM hB
  refine PySem.P.add_list e e2 ?_ (by rw [List.size_toArray, List.size_toArray]; omega)
  have ea : its.toArray ++ its2.toArray = (its ++ its2).toArray := by simp
  rw [ea]
  exact ⟨.ref _, _, I.lnew (t' := s.toks) (r.append r2) (by rw [List.length_append]; omega), rfl, q _ I.fresh⟩
end
section
variable {prog : Program} {w : World} {A : Around} {E : Value → Shared → Prop} {s : Shared}
end
section
variable {X : Cx}
end
end L2
namespace Att
open PySem PySem.W PySem.Calls PyProof.Rows
theorem ints_of_wellAll {P : Params} {h : Heap} : ∀ (ns : List Int) (vs : List Value), WellAll P h vs (ns.map WData.int) → IntsAre vs ns := by
  intro ns
  induction ns with
  | nil =>
    intro vs w
    rw [List.map_nil] at w
    cases w
    exact .nil
  | cons n ns ih =>
    intro vs w
    rw [List.map_cons] at w
    cases w with
    | cons a b =>
      cases a
      exact .cons _ _ (ih _ b)
theorem script_of {l : OpenLaw} {n : Nat} (hn : l.most = some n) {P : Params} {h : Heap} {args : List WData} {vals : List Value}
    (hpre : l.row.toRowW.claim.pre args = true) (hwl : WellAll P h vals args) :
    ∃ a vs ns, vals = [Value.ref a] ∧ args = [WData.list (ns.map WData.int)] ∧ h.get? a = some { cls := .type "list", data := .seq vs.toArray } ∧ IntsAre vs ns ∧ ns.length ≤ n := by
  have hsh : WShape.hasAll [] args [.list .int] = true := (pre_splitW hpre).1
  have hc : l.pre.holds [] { args := args } = true := (pre_splitW hpre).2
  obtain ⟨d, r, rfl, h1, h2⟩ := hasAllW_cons hsh
  obtain rfl := hasAllW_nil h2
  obtain ⟨xs, rfl, h3⟩ := hasW_list h1
  obtain ⟨ns, rfl⟩ := items_int h3
  have hlen : ns.length ≤ n := by
    unfold OpenLaw.pre at hc
    have h4 : (WTm.not (.lt (.lit (.int (n : Int))) (.len (.arg 0)))).holds [] { args := [.list (ns.map .int)] } = true := by
      have h4 := (holds_andW hc).1
      rw [hn] at h4
      exact h4
    have h5 := condW_of h4 (w_not (w_lt w_lit (w_len_list (w_arg rfl))))
    rw [List.length_map] at h5
    refine Nat.le_of_not_lt fun q => ?_
    have q' : (n : Int) < ((ns.length : Nat) : Int) := by omega
    first
      | (rw [decide_eq_true q'] at h5; exact absurd h5 (by decide))
      | (simp at h5; omega)
  cases hwl with
  | cons w1 w2 =>
    cases w2
    cases w1 with
    | list ho hall => exact ⟨_, _, ns, rfl, rfl, ho, ints_of_wellAll ns _ hall, hlen⟩
theorem post_true (l : OpenLaw) (args : List WData) : l.row.toRowW.claim.post args (.bool true) args = true :=
  postW_of (r := l.row.toRowW) (X := (true == true))
    (show WShape.has [] (.bool true) .bool = true by first | rfl | decide | simp [WShape.has, WShape.arms, WShape.armsAll])
    (show (WTm.eq .res (.lit (.bool true))).value [] { args := args, res := some (.bool true), after := args } = some (.bool (true == true)) from w_eq_bool (w_res rfl) w_lit) rfl
theorem attach_call {l : OpenLaw} {n : Nat} {q : Program} {loose : List Str} {XP : (Str → Option Value) → Heap → Prop} {YP : World → Heap → Prop} {d : DefRec}
    (hn : l.most = some n) (hdf : d.params.defaults = [])
    (call : ∀ (w : World) (s₀ s₁ : Shared) (mg mb : Str → Option Value) (fa : Addr) (o : Obj) (pm cd doc : Value) (a : Addr) (vs : List Value) (ns : List Int),
      Ground q loose [] XP w s₀ mg mb s₁.heap → YP w s₁.heap →
      s₁.heap.get? fa = some o → o.data = .func (docDef d.name d.params d.body d.scope pm cd doc) → s₁.heap.CodeRec cd d.name → mg d.name = some (.ref fa) →
      s₁.heap.get? a = some { cls := .type "list", data := .seq vs.toArray } → IntsAre vs ns → ns.length ≤ n → s₁.gens = #[] →
      codeAny (model l.prog w) callerA (.call (.ref fa) ⟨[.ref a], []⟩) (fun r s' => r = .ok (.ret (.bool true)) ∧ OldK s₁.heap s'.heap ∧ s'.os = s₁.os ∧ AllBare s'.gens) s₁) :
    WalkO q loose XP YP l.row.toRowW d [] (fun f vs => PySem.call f vs) := by
  intro w s₀ s₁ mg mb G Y fa o pm cd doc dV kV ho hd hcd hD hmg hg args vals as hpre hlay hrd hwl hlo
  obtain rfl : dV = .none := Dflts.none hD hdf
  obtain rfl : kV = .none := Dflts.noKw hD
  obtain ⟨a, vs, ns, rfl, rfl, hobj, hints, hlen⟩ := script_of hn hpre hwl
  refine enter_call (codeAny_mono (call w s₀ s₁ mg mb fa o pm cd doc a vs ns G Y ho (fd_plain hd) hcd hmg hobj hints hlen hg) fun r s' hq => ?_)
  obtain ⟨rfl, h2, h3, h4⟩ := hq
  exact ⟨.inl ⟨.bool true, .bool true, [], rfl, fun _ => rfl, .bool true, post_true l _, fun _ => ⟨List.Pairwise.nil, fun _ hm => (nomatch hm)⟩⟩, h2, h3, h4⟩
section
variable {prog : Program} {w : World} {A : Around} {E : Value → Shared → Prop} {s : Shared} {K : Frag}
end
end Att
namespace L2
open PySem PySem.Spec PyProof.Rows
theorem vals_ints : ∀ {vs : List Value} {ns : List Int}, IntsAre vs ns → Vals (ns.map V.int) vs
  | _, _, .nil => .nil
  | _, _, .cons n t h => .cons ⟨t, rfl⟩ (vals_ints h)
def Only (H : Hp) : Prop := ∀ b, H b = none ∨ ∃ o xs, H b = some (.frz o (.lst xs))
theorem law_call {P : Program} {w : World} {K : PySem.W.Frag} {mg mb : Str → Option Value} {CX : CXT} {k : Nat} {fa a : Addr} {fd : FuncData} {x : Str} {sp : Sp} {s₁ : Shared} {vs : List Value} {ns : List Int}
    (KX : K.In s₁.heap) (hns : s₁.heap.Ns mainGlobals mg) (hb : s₁.heap.Ns builtinsNs mb) (hbb : ∀ x : Str, x ≠ "__name__" → mb x = bootBuiltins x) (hlim : s₁.heap.NoLimit) (hg : s₁.gens = #[])
    (ha : s₁.heap.get? a = some { cls := .type "list", data := .seq vs.toArray }) (hi : IntsAre vs ns) (hl : ns.length ≤ sizeLine) (hr : Room k callerA)
    (F : ∀ base : Heap, K.In base → base.Ns mainGlobals mg → FnOk P w K mg base CX k fa fd [x] sp) (hbind : ∀ (s : Shared) (u : Value), BindsTo s fd ⟨[u], []⟩ [(x, u)])
    (hsp : ∀ H : Hp, Only H → SqL K H a (ns.map V.int) → sp [.ref a] H (fun v _ => v = .bl true) fun _ _ _ => False)
    (hCX : ∀ H e s', CX [] H s₁ (fun _ _ _ => False) e s' → False) :
    codeAny (model P w) callerA (.call (.ref fa) ⟨[.ref a], []⟩) (fun r s' => r = .ok (.ret (.bool true)) ∧ OldK s₁.heap s'.heap ∧ s'.os = s₁.os ∧ AllBare s'.gens) s₁ := by
  have rv := vals_ints hi
  have lenV := hi.length
  have core : ∀ H : Hp, H.clk = 0 → Only H → SqL K H a (ns.map V.int) → HOk P w H s₁.heap → (∀ b, H b ≠ none → b = a) → (H a ≠ none → K.lookup a = none) →
      codeAny (model P w) callerA (.call (.ref fa) ⟨[.ref a], []⟩) (fun r s' => r = .ok (.ret (.bool true)) ∧ OldK s₁.heap s'.heap ∧ s'.os = s₁.os ∧ AllBare s'.gens) s₁ := by
    intro H hz0 hO hS hok hA hK
    have base_of : ∀ {b : Addr} {o : Obj}, s₁.heap.get? b = some o → H b = none → (hidT s₁.heap H).get? b = some o := fun e n => hidT_get e n
    have noA : ∀ {b : Addr} {o : Obj} {es : Array DictEntry} {ep : Nat}, s₁.heap.get? b = some o → o.data = .dict es ep → H b = none := fun {b o es ep} e d => by
      cases q : H b with
      | none => rfl
      | some u =>
        have e' : b = a := hA b (by rw [q]; simp)
        subst e'
        rw [ha] at e; cases e
        have d' : Data.seq vs.toArray _ = Data.dict es ep := d
        cases d'
    have nsK : ∀ {b : Addr} {m : Str → Option Value}, s₁.heap.Ns b m → (hidT s₁.heap H).Ns b m := fun {b m} ⟨o, es, ep, e, d, r⟩ => ⟨o, es, ep, base_of e (noA e d), d, r⟩
    have hKb : K.In (hidT s₁.heap H) := fun b o e => base_of (KX b o e) (by
      cases q : H b with
      | none => rfl
      | some u =>
        have e' : b = a := hA b (by rw [q]; simp)
        subst e'
        rw [hK (by rw [q]; simp)] at e; cases e)
    have hM : Mod K mg (hidT s₁.heap H) := ⟨hKb, nsK hns, ⟨mb, nsK hb, hbb⟩, let ⟨mc, h1, h2⟩ := hlim; ⟨mc, nsK h1, h2⟩⟩
    have e0 : Env0 P w K mg (hidT s₁.heap H) callerA [] s₁ H := ⟨rfl, hM, fun b o e => of_hidT e, Nat.le_of_eq (hidT_size _ _), trivial, fun b hb => absurd (show b ∈ ([] : List Addr) from hb) (by simp), hok, ⟨.of_eq hg, by rw [hz0]; exact Nat.zero_le _⟩⟩
    refine codeAny_mono ((F _ hKb (nsK hns)).run callerA [] s₁ H ⟨[.ref a], []⟩ [.ref a] [.ref a] _ _ hr e0 (hbind s₁ (.ref a)) (.cons rfl .nil) (hsp H hO hS)) fun r s' h => ?_
    cases r with
    | error e => exact (hCX H e s' h).elim
    | ok fl =>
      cases fl with
      | next => exact False.elim h
      | brk => exact False.elim h
      | cont => exact False.elim h
      | ret u =>
        obtain ⟨v, H', os, bare, un, hok', r', q⟩ := h
        have q' : v = .bl true := q
        subst q'
        obtain rfl : u = Value.bool true := r'
        refine ⟨rfl, OldK.of_keep fun b o e => ?_, os, bare.1⟩
        cases q : H b with
        | none => exact un.keep b o e q (by intro z; exact absurd (show b ∈ ([] : List Addr) from z) (by simp)) (by simp)
        | some u =>
          rcases hO b with z | ⟨ob, xs, z⟩
          · rw [q] at z; cases z
          · have z2 := un.frzs b ob _ z
            obtain ⟨e1, _⟩ := hok b _ z
            obtain ⟨e2, _⟩ := hok' b _ z2
            rw [e] at e1; cases e1
            exact e2
  cases hk : K.lookup a with
  | some o =>
    have e := KX a o hk
    rw [ha] at e
    cases e
    refine core ⟨fun _ => none, 0⟩ rfl (fun _ => .inl rfl) (.inr ⟨_, vs.toArray, _, hk, rfl, rfl, rfl, by rw [List.size_toArray, lenV]; exact hl, by simpa using rv, fun x a n z => by simp at z⟩) (fun b u z => by have z' : (none : Option HO) = some u := z; cases z') (fun b z => absurd rfl z) fun z => absurd rfl z
  | none =>
    refine core ⟨fun b => if b = a then some (.frz { cls := .type "list", data := .seq vs.toArray } (.lst (ns.map V.int))) else none, 0⟩ rfl (fun b => ?_) (.inl (.inr ⟨{ cls := .type "list", data := .seq vs.toArray }, if_pos rfl⟩)) (fun b u z => ?_) (fun b z => ?_) fun _ => hk
    · by_cases hb : b = a
      · exact .inr ⟨_, _, if_pos hb⟩
      · exact .inl (if_neg hb)
    · by_cases hb : b = a
      · have z' := (if_pos hb).symm.trans z
        cases z'
        subst hb
        exact ⟨ha, by rw [List.length_map]; exact hl, vs, _, rv, ha⟩
      · have z' := (if_neg hb).symm.trans z
        cases z'
    · by_cases hb : b = a
      · exact hb
      · exact absurd (if_neg hb) z
end L2
namespace L2
open PySem PySem.Spec PyProof.Rows
theorem walk_of {l : PySem.W.OpenLaw} {n k : Nat} {q : Program} {loose : List Str} {XP : (Str → Option Value) → Heap → Prop} {YP : World → Heap → Prop} {d : DefRec} {K : Params → PySem.W.Frag} {CX : World → CXT} {sp : World → Sp} {x : Str}
    (hn : l.most = some n) (hn2 : n ≤ sizeLine) (hdf : d.params.defaults = []) (hr : Room k callerA)
    (hY : ∀ (w : World) (h : Heap), YP w h → (K w.params).In h)
    (F : ∀ (w : World) (mg : Str → Option Value) (fa : Addr) (h : Heap), (K w.params).In h → h.Ns mainGlobals mg → mg d.name = some (.ref fa) →
      ∃ fd : FuncData, (∀ (s : Shared) (u : Value), BindsTo s fd ⟨[u], []⟩ [(x, u)]) ∧
        ∀ base : Heap, (K w.params).In base → base.Ns mainGlobals mg → FnOk l.prog w (K w.params) mg base (CX w) k fa fd [x] (sp w))
    (hsp : ∀ (w : World) (H : Hp) (a : Addr) (ns : List Int), ns.length ≤ n → Only H → SqL (K w.params) H a (ns.map V.int) → sp w [.ref a] H (fun v _ => v = .bl true) fun _ _ _ => False)
    (hCX : ∀ (w : World) (H : Hp) (s : Shared) (e : Value) (s' : Shared), CX w [] H s (fun _ _ _ => False) e s' → False) :
    PySem.W.WalkO q loose XP YP l.row.toRowW d [] (fun f vs => PySem.call f vs) := by
  refine Att.attach_call hn hdf fun w s₀ s₁ mg mb fa o pm cd doc a vs ns G Y ho hd hcd hmg hobj hints hlen hg => ?_
  have KX := hY w _ Y
  obtain ⟨fd, hb, hF⟩ := F w mg fa _ KX G.T.g hmg
  exact law_call KX G.T.g G.T.b G.T.builtins G.T.nolimit hg hobj hints (Nat.le_trans hlen hn2) hr hF hb (fun H hO hS => hsp w H a ns hlen hO hS) fun H e s' => hCX w H s₁ e s'
end L2
namespace L2
open PySem PySem.Spec PyProof.Rows
def defArgs (s : Stmt) : Arguments := match s with
  | .FunctionDef _ a _ _ _ _ _ _ _ _ => a
  | _ => { posonlyargs := [], args := [], vararg := none, kwonlyargs := [], kw_defaults := [], kwarg := none, defaults := [] }
def defBody (s : Stmt) : List Stmt := match s with
  | .FunctionDef _ _ b _ _ _ _ _ _ _ => b
  | _ => []
def defScope (s : Stmt) : Scope := match s with
  | .FunctionDef _ _ _ _ _ _ sc _ _ _ => sc
  | _ => { kind := .function, names := [], isGenerator := false, isCoroutine := false }
abbrev CX0 : CXT := fun _ _ _ _ _ _ => False
abbrev E0 : XK := fun _ _ _ => False
theorem pass0 {X : Cx} : Passes CX0 X E0 := fun _ _ _ _ _ _ _ h => h.elim
structure Fun (K : PySem.W.Frag) (x qual : Str) (st : Stmt) (f : Addr) (fd : FuncData) : Prop where
  ex : ∃ (oc : Value) (od : Option Addr) (kV doc pm : Value) (an : Option Addr) (cdv ct : Value) (osl : Array (Option Value)),
    fd = PySem.W.fnOf x qual (defArgs st) (defBody st) (defScope st) .none kV doc pm an cdv ct ∧ K.lookup f = some ⟨oc, od, .func fd, osl⟩ ∧ PySem.W.codeIn K cdv qual = true
  kp : PySem.W.keepIn K (.ref f) = true
section
variable {P : Program} {w : World} {K : PySem.W.Frag} {mg : Str → Option Value} {base : Heap}
theorem Fun.ok {x qual : Str} {st : Stmt} {f : Addr} {fd : FuncData} {N ps : List Str} {k : Nat} {sp : Sp} (F : Fun K x qual st f fd) (S : FnScope N ps (defScope st)) (len : ∀ vs H Q E, sp vs H Q E → vs.length = ps.length)
    (hbody : ∀ (cdv : Value) (A : Around) (outer : List Env) (s : Shared) (H : Hp) (vs : List V) (Q : VK) (E : XK), Room k (A.deeper (envOfC qual (defScope st) s.heap.objs.size f cdv)) → sp vs H Q E →
      ∃ t, PSs (cxOf CX0 P w K mg base N qual (defScope st) f cdv A outer s H E).nox (defBody st) t ∧ t { nx := fun _ H' => Q .non H', rt := Q } (start N vs) H) : FnOk P w K mg base CX0 (k + 1) f fd ps sp := by
  obtain ⟨oc, od, kV, doc, pm, an, cdv, ct, osl, rfl, lk, hcd⟩ := F.ex
  refine fn_of lk hcd S len fun A outer s H vs Q E hr hsp => ?_
  obtain ⟨t, h, q⟩ := hbody cdv A outer s H vs Q E hr hsp
  exact ⟨t, h.nox, q⟩
theorem Fun.binds {x qual : Str} {st : Stmt} {f : Addr} {fd : FuncData} {ps : List Str} (F : Fun K x qual st f fd)
    (h : ∀ (kV doc pm : Value) (an : Option Addr) (cdv ct : Value) (us : List Value), us.length = ps.length → bindArgs (PySem.W.fnOf x qual (defArgs st) (defBody st) (defScope st) .none kV doc pm an cdv ct) ⟨us, []⟩ = pure (ps.zip us)) : Binds K fd ps [] := by
  obtain ⟨oc, od, kV, doc, pm, an, cdv, ct, osl, rfl, lk, hcd⟩ := F.ex
  exact .all (h kV doc pm an cdv ct)
theorem fun_mk {x qual : Str} {st : Stmt} {f : Addr} {oc : Value} {od an : Option Addr} {osl : Array (Option Value)} {kV doc pm cdv ct : Value} (l : K.lookup f = some ⟨oc, od, .func (PySem.W.fnOf x qual (defArgs st) (defBody st) (defScope st) .none kV doc pm an cdv ct), osl⟩)
    (c : PySem.W.codeIn K cdv qual = true) (k : PySem.W.keepIn K (.ref f) = true) : Fun K x qual st f (PySem.W.fnOf x qual (defArgs st) (defBody st) (defScope st) .none kV doc pm an cdv ct) := ⟨⟨oc, od, kV, doc, pm, an, cdv, ct, osl, rfl, l, c⟩, k⟩
end
section
variable {X : Cx}
end
theorem iteF {A B : Prop} (h : B) : if false = true then A else B := by
  rw [if_neg Bool.false_ne_true]
  exact h
theorem iteT {A B : Prop} (h : A) : if true = true then A else B := by
  rw [if_pos rfl]
  exact h
theorem ite2 {c A B : Prop} [Decidable c] (h1 : c → A) (h2 : ¬ c → B) : if c then A else B := by
  by_cases h : c
  · rw [if_pos h]
    exact h1 h
  · rw [if_neg h]
    exact h2 h
theorem iteNS {c A B : Prop} [Decidable c] (hc : c) (h : B) : if (!decide c) = true then A else B := by
  rw [decide_eq_true hc]
  exact iteF h
structure Same (H H' : Hp) : Prop where
  tr : ∀ b o, H b = some o → H' b = some o
  ck : H.clk ≤ H'.clk
instance {H H' : Hp} : CoeFun (Same H H') (fun _ => ∀ b o, H b = some o → H' b = some o) := ⟨Same.tr⟩
theorem Same.refl (H : Hp) : Same H H := ⟨fun _ _ h => h, Nat.le_refl _⟩
theorem Same.trans {H H1 H2 : Hp} (a : Same H H1) (b : Same H1 H2) : Same H H2 := ⟨fun c o h => b c o (a c o h), Nat.le_trans a.ck b.ck⟩
theorem Same.free {H H' : Hp} (e : Same H H') {l : Addr} (h : H' l = Option.none) : H l = Option.none := by
  cases q : H l with
  | none => rfl
  | some o =>
    rw [e l o q] at h
    cases h
theorem Same.seq {K : PySem.W.Frag} {H H' : Hp} {a : Addr} {xs : List V} (e : Same H H') (h : SqL K H a xs) : SqL K H' a xs := by
  rcases h with (h | ⟨o, h⟩) | h
  · exact .inl (.inl (e _ _ h))
  · exact .inl (.inr ⟨o, e _ _ h⟩)
  · exact .inr h
end L2
set_option maxHeartbeats 4000000
namespace L2
open PySem PySem.Spec PyProof.Rows
theorem close_over (env : Env) : ∀ (l : List (Str × NameKind)) (cs : List (Str × Addr)), (∀ x, (x, NameKind.free) ∈ l → ∃ c, env.cells.lookup x = some c) →
    (∀ x c, cs.lookup x = some c → env.cells.lookup x = some c) →
    ∃ cl : List (Str × Addr), (forIn l cs fun (p : Str × NameKind) (r : List (Str × Addr)) =>
        if (p.2 == NameKind.free) = true then (do let a ← cellOf env p.1; pure (ForInStep.yield ((p.1, a) :: r)) : Sem (ForInStep (List (Str × Addr)))) else pure (ForInStep.yield r)) = (pure cl : Sem (List (Str × Addr))) ∧
      (∀ x c, cl.lookup x = some c → env.cells.lookup x = some c) ∧ (∀ x, (x, NameKind.free) ∈ l → ∃ c, cl.lookup x = some c) ∧ ∀ x c, cs.lookup x = some c → ∃ c', cl.lookup x = some c'
  | [], cs, _, h2 => ⟨cs, rfl, h2, (fun _ z => by cases z), (fun _ c e => ⟨c, e⟩)⟩
  | (n, k) :: r, cs, h1, h2 => by
    cases hk : (k == NameKind.free) with
    | false =>
      obtain ⟨cl, e, a, b, c⟩ := close_over env r cs (fun x hx => h1 x (List.mem_cons_of_mem _ hx)) h2
      refine ⟨cl, ?_, a, fun x hx => ?_, c⟩
      · rw [List.forIn_cons, if_neg (by show ¬ ((k == NameKind.free) = true); rw [hk]; exact Bool.false_ne_true)]
        exact e
      · rcases List.mem_cons.mp hx with z | z
        · cases z
          exact absurd hk (by decide)
        · exact b x z
    | true =>
      have hk' : k = NameKind.free := eq_of_beq hk
      subst hk'
      obtain ⟨a0, ea⟩ := h1 n List.mem_cons_self
      have h2' : ∀ x c, ((n, a0) :: cs).lookup x = some c → env.cells.lookup x = some c := fun x c e => by
        rw [List.lookup_cons] at e
        cases hx : x == n with
        | true =>
          rw [hx] at e
          have e' : some a0 = some c := e
          rw [eq_of_beq hx, ea, e']
        | false =>
          rw [hx] at e
          exact h2 x c e
      obtain ⟨cl, e, a, b, c⟩ := close_over env r ((n, a0) :: cs) (fun x hx => h1 x (List.mem_cons_of_mem _ hx)) h2'
      refine ⟨cl, ?_, a, fun x hx => ?_, fun x c0 e0 => ?_⟩
      · rw [List.forIn_cons, if_pos (by show (NameKind.free == NameKind.free) = true; decide)]
        have ec : cellOf env n = (pure a0 : Sem Addr) := by unfold cellOf; rw [ea]
        show ((do let a ← cellOf env n; pure (ForInStep.yield ((n, a) :: cs)) : Sem (ForInStep (List (Str × Addr)))) >>= _) = _
        rw [ec]
        exact e
      · rcases List.mem_cons.mp hx with z | z
        · cases z
          exact c n a0 (by rw [List.lookup_cons]; simp)
        · exact b x z
      · by_cases hx : (x == n) = true
        · exact c x a0 (by rw [List.lookup_cons, hx])
        · exact c x c0 (by rw [List.lookup_cons, Bool.eq_false_iff.mpr hx]; exact e0)
theorem closed {scope : Scope} {env : Env} (h : ∀ x, (x, NameKind.free) ∈ scope.names → ∃ c, env.cells.lookup x = some c) :
    ∃ cl, closureFor scope env = pure cl ∧ (∀ x c, cl.lookup x = some c → env.cells.lookup x = some c) ∧ ∀ x, (x, NameKind.free) ∈ scope.names → ∃ c, cl.lookup x = some c := by
  obtain ⟨cl, e, a, b, _⟩ := close_over env scope.names [] h (fun x c z => by cases z)
  refine ⟨cl, ?_, a, b⟩
  unfold closureFor
  show (forIn scope.names [] _ >>= _) = _
  first
    | exact (congrArg (· >>= _) e)
    | (rw [show (forIn scope.names ([] : List (Str × Addr)) _ : Sem (List (Str × Addr))) = pure cl from e]; rfl)
def blkB (xN : List Str) (xsc sc : Scope) (N : List Str) (k : Nat) (fr : List Nat) : Bool :=
  decide (sc.kind = .function) && sc.names.all (fun p => !(p.2 == .cell) && (!(p.2 == .local) || (sc.names.lookup p.1 == some .local)) && (!(p.2 == .free) || (xsc.names.lookup p.1 == some .cell || xsc.names.lookup p.1 == some .free)))
    && decide (N.length = k + fr.length) && (List.range fr.length).all (fun j => match fr[j]? with
      | some i => (match xN[i]? with
        | some x => decide (N[k + j]? = some x) && (sc.names.lookup x == some .free)
        | none => false)
      | none => false)
structure Blk (xN : List Str) (xsc sc : Scope) (N : List Str) (k : Nat) (fr : List Nat) : Prop where
  kind : sc.kind = .function
  cell : ∀ p ∈ sc.names, p.2 ≠ .cell
  own : ∀ p ∈ sc.names, p.2 = .local → sc.names.lookup p.1 = some .local
  free : ∀ x, (x, NameKind.free) ∈ sc.names → xsc.names.lookup x = some .cell ∨ xsc.names.lookup x = some .free
  len : N.length = k + fr.length
  at_ : ∀ j i, fr[j]? = some i → ∃ x, xN[i]? = some x ∧ N[k + j]? = some x ∧ sc.names.lookup x = some .free
theorem blk_of {xN : List Str} {xsc sc : Scope} {N : List Str} {k : Nat} {fr : List Nat} (h : blkB xN xsc sc N k fr = true) : Blk xN xsc sc N k fr := by
  unfold blkB at h
  rw [Bool.and_eq_true, Bool.and_eq_true, Bool.and_eq_true] at h
  obtain ⟨⟨⟨h1, h2⟩, h3⟩, h4⟩ := h
  have h2' := List.all_eq_true.mp h2
  refine ⟨of_decide_eq_true h1, fun p hp z => ?_, fun p hp z => ?_, fun x hx => ?_, of_decide_eq_true h3, fun j i e => ?_⟩
  · have q := h2' p hp
    rw [z] at q
    simp at q
  · have q := h2' p hp
    rw [z] at q
    simpa using q
  · have q := h2' _ hx
    simpa using q
  · have hj : j < fr.length := (List.getElem?_eq_some_iff.mp e).1
    have q := List.all_eq_true.mp h4 j (List.mem_range.mpr hj)
    rw [e] at q
    dsimp only at q
    cases ex : xN[i]? with
    | none =>
      rw [ex] at q
      cases q
    | some x =>
      rw [ex] at q
      dsimp only at q
      rw [Bool.and_eq_true] at q
      exact ⟨x, rfl, of_decide_eq_true q.1, by simpa using q.2⟩
theorem relabel_free {env : Env} : ∀ {names : List (Str × NameKind)} {x : Str}, names.lookup x = some .free →
    (names.map fun (n, k) => if (k == NameKind.free && env.scope.kind == .function && env.kindOf n == some .cell) then (n, NameKind.cell) else (n, k)).lookup x = some .cell ∨
    (names.map fun (n, k) => if (k == NameKind.free && env.scope.kind == .function && env.kindOf n == some .cell) then (n, NameKind.cell) else (n, k)).lookup x = some .free
  | [], _, h => by cases h
  | (n, k) :: r, x, h => by
    have ih := @relabel_free env r x
    rw [List.lookup_cons] at h
    show List.lookup x ((if (k == NameKind.free && env.scope.kind == .function && env.kindOf n == some .cell) = true then (n, NameKind.cell) else (n, k)) :: _) = _ ∨ List.lookup x ((if (k == NameKind.free && env.scope.kind == .function && env.kindOf n == some .cell) = true then (n, NameKind.cell) else (n, k)) :: _) = _
    cases hx : x == n with
    | true =>
      rw [hx] at h
      have h' : some k = some NameKind.free := h
      cases h'
      split
      · left; rw [List.lookup_cons, hx]
      · right; rw [List.lookup_cons, hx]
    | false =>
      rw [hx] at h
      have q := ih h
      split
      · rw [List.lookup_cons, hx]; exact q
      · rw [List.lookup_cons, hx]; exact q
theorem relabel_back {env : Env} : ∀ {names : List (Str × NameKind)} {x : Str}, (∀ p ∈ names, p.2 ≠ NameKind.cell) →
    ((names.map fun (n, k) => if (k == NameKind.free && env.scope.kind == .function && env.kindOf n == some .cell) then (n, NameKind.cell) else (n, k)).lookup x = some .cell ∨
    (names.map fun (n, k) => if (k == NameKind.free && env.scope.kind == .function && env.kindOf n == some .cell) then (n, NameKind.cell) else (n, k)).lookup x = some .free) → (x, NameKind.free) ∈ names
  | [], _, _, h => by rcases h with h | h <;> cases h
  | (n, k) :: r, x, hc, h => by
    have ih := @relabel_back env r x (fun p hp => hc p (List.mem_cons_of_mem _ hp))
    have hk : k ≠ NameKind.cell := hc (n, k) List.mem_cons_self
    have h' : List.lookup x ((if (k == NameKind.free && env.scope.kind == .function && env.kindOf n == some .cell) = true then (n, NameKind.cell) else (n, k)) :: (r.map fun (n, k) => if (k == NameKind.free && env.scope.kind == .function && env.kindOf n == some .cell) then (n, NameKind.cell) else (n, k))) = some .cell ∨
        List.lookup x ((if (k == NameKind.free && env.scope.kind == .function && env.kindOf n == some .cell) = true then (n, NameKind.cell) else (n, k)) :: (r.map fun (n, k) => if (k == NameKind.free && env.scope.kind == .function && env.kindOf n == some .cell) then (n, NameKind.cell) else (n, k))) = some .free := h
    cases hx : x == n with
    | true =>
      have ex : x = n := eq_of_beq hx
      split at h'
      · rename_i z
        rw [Bool.and_eq_true, Bool.and_eq_true] at z
        have ek : k = NameKind.free := eq_of_beq z.1.1
        rw [ex, ek]
        exact List.mem_cons_self
      · rw [List.lookup_cons, hx] at h'
        rcases h' with q | q
        · exact absurd (Option.some.inj q) hk
        · have ek : k = NameKind.free := Option.some.inj q
          rw [ex, ek]
          exact List.mem_cons_self
    | false =>
      refine List.mem_cons_of_mem _ (ih ?_)
      split at h'
      · rw [List.lookup_cons, hx] at h'; exact h'
      · rw [List.lookup_cons, hx] at h'; exact h'
def Cx.blk (X : Cx) (N : List Str) (scope : Scope) (cl : List (Str × Addr)) (C : Addr) (fp : List Addr) (s : Shared) (H : Hp) : Cx where
  prog := X.prog
  w := X.w
  K := X.K
  mg := X.mg
  base := X.base
  A := X.A
  N := N
  s₀ := s
  H₀ := H
  env := compEnvC scope cl C X.env
  outer := X.stack
  stack := X.stack
  ex := fp
  fn := fun _ => false
  calm := X.calm
  pn := []
  xe := fun _ _ => False
def blk0 (k : Nat) (fr : List Nat) (σ : St) : St := List.replicate k none ++ fr.map fun i => (σ[i]?).join
theorem blk_start {X : Cx} {pins : List (Addr × Obj)} {σ : St} {H : Hp} {s s4 : Shared} {N : List Str} {scope : Scope} {cl : List (Str × Addr)} {k : Nat} {fr : List Nat} {fp : List Addr} {C D : Addr}
    (B : Blk X.N X.env.scope scope N k fr) (I : Inv X pins σ H s) (hf : ∀ b ∈ fp, FpOk X pins H b) (hobj : ∀ b ∈ fp, ∃ o, s.heap.get? b = some o)
    (c1 : ∀ x c, cl.lookup x = some c → X.env.cells.lookup x = some c) (c2 : ∀ x, (x, NameKind.free) ∈ scope.names → ∃ c, cl.lookup x = some c)
    (hos : s4.os = s.os) (hg : Bar (upd H D (.lst [])) s4.gens s4.toks) (hC : s.heap.objs.size ≤ C) (hD : s.heap.objs.size ≤ D) (hCD : D ≠ C) (kp : ∀ b o, s.heap.get? b = some o → s4.heap.get? b = some o)
    (hns : s4.heap.Ns C fun _ => none) (hl : s4.heap.get? D = some { cls := .type "list", data := .seq #[] }) :
    Inv (X.blk N scope cl C fp s H) [] (blk0 k fr σ) (upd H D (.lst [])) s4 := by
  have hDn : H D = none := I.hok.fresh hD
  have hCn : H C = none := I.hok.fresh hC
  have ne2 : ∀ b ∈ fp, b ≠ C := fun b hb z => by
    obtain ⟨o, e⟩ := hobj b hb
    have q := Nat.lt_of_lt_of_le (Heap.lt_size e) hC
    rw [z] at q
    exact Nat.lt_irrefl _ q
  have cltC : ∀ x c, cl.lookup x = some c → c < s.heap.objs.size := fun x c e => by
    obtain ⟨v, z⟩ := I.cell x c (c1 x c e)
    exact z.lt
  have ok : (X.blk N scope cl C fp s H).Ok :=
    { mod := I.ok.mod
      kind := B.kind
      glob := I.ok.glob
      blt := I.ok.blt
      above := hC
      inj := fun x y c e1 e2 => I.ok.inj x y c (c1 x c e1) (c1 y c e2)
      has := fun x hx => c2 x (relabel_back B.cell hx)
      cab := fun x c z _ => absurd (show false = true from z) Bool.false_ne_true
      hd := I.ok.hd
      frames := I.ok.frames
      stk := .inl rfl
      exf := fun b hb => ⟨ne2 b hb, fun x c e => (hf b hb).2.2.2.2.1 x c (c1 x c e)⟩
      bs := I.bs
      bsz := Nat.le_trans I.ok.bsz I.sz
      noex := fun b o e hb => by
        rcases (hf b hb).2.2.2.1 with z | z
        · exact I.ok.noex b o e z
        · exact Nat.lt_irrefl _ (Nat.lt_of_lt_of_le (Heap.lt_size e) (Nat.le_trans I.ok.bsz z))
      exfs := fun b hb z => by
        obtain ⟨f0, f1, f2, _⟩ := hf b hb
        rcases List.mem_cons.mp (I.stkSub b z) with q | q
        · exact f1 q
        · exact f2 q
      funs := I.stack
      frf := I.stkFree }
  refine ⟨ok, hos, hg, Un.laid kp hD hDn, ⟨_, hns, fun i x v e1 e2 e3 => ?_⟩, fun x c e => ?_, ?_, fun x c e => ?_, fun p hp => absurd (show p ∈ ([] : List (Addr × Obj)) from hp) (by simp), I.hok.laid kp hD ⟨Nat.zero_le _, [], 0, .nil, hl⟩, ?_⟩
  ·
    unfold blk0 at e2
    by_cases hik : i < k
    · rw [List.getElem?_append_left (by simpa using hik), List.getElem?_replicate] at e2
      split at e2 <;> cases e2
    · rw [List.getElem?_append_right (by simpa using hik), List.length_replicate, List.getElem?_map] at e2
      cases ej : fr[i - k]? with
      | none =>
        rw [ej] at e2
        cases e2
      | some i0 =>
        rw [ej] at e2
        have e2' : (σ[i0]?).join = some v := by simpa using e2
        obtain ⟨y, hy, hyN, hyf⟩ := B.at_ _ _ ej
        have ek : k + (i - k) = i := by omega
        rw [ek] at hyN
        have e1' : N[i]? = some x := e1
        rw [e1'] at hyN
        cases hyN
        have eσ : σ[i0]? = some (some v) := by
          cases q : σ[i0]? with
          | none => rw [q] at e2'; cases e2'
          | some u =>
            rw [q] at e2'
            have : u = some v := by simpa using e2'
            rw [this]
        obtain ⟨m, _, hloc⟩ := I.loc
        have hxf := B.free x (PySem.mem_of_lookup hyf)
        have hvis : Vis X.env.scope x := .inr hxf
        obtain ⟨u, ru, lk⟩ := hloc i0 x v hy eσ hvis
        refine ⟨u, ru, .inr ⟨relabel_free hyf, ?_⟩⟩
        rcases lk with ⟨z, _⟩ | ⟨_, c, ec, zc⟩
        · have z' : X.env.scope.names.lookup x = some .local := z
          rcases hxf with q | q
          · rw [q] at z'; cases z'
          · rw [q] at z'; cases z'
        · obtain ⟨c', ec'⟩ := c2 x (PySem.mem_of_lookup hyf)
          have : c = c' := Option.some.inj (ec.symm.trans (c1 x c' ec'))
          subst this
          exact ⟨c, ec', zc.keeps kp⟩
  · obtain ⟨v, z⟩ := I.cell x c (c1 x c e)
    exact ⟨v, z.keeps kp⟩
  · show upd H D (.lst []) C = none
    rw [upd_ne hCD.symm]
    exact hCn
  · have hne : c ≠ D := fun z => by
      have q := Nat.lt_of_lt_of_le (cltC x c e) hD
      rw [z] at q
      exact Nat.lt_irrefl _ q
    rw [upd_ne hne]
    exact I.freeC x c (c1 x c e)
  · show (blk0 k fr σ).length = N.length
    unfold blk0
    rw [List.length_append, List.length_replicate, List.length_map, B.len]
def PTs (X : Cx) (ifs : List Expr) (t : TT) : Prop :=
  ∀ (pins : List (Addr × Obj)) (s : Shared) (σ : St) (H : Hp) (Q : Bool → Hp → Prop), Inv X pins σ H s → t σ H Q →
    wpAny (model X.prog X.w) X.A (forIn ifs true fun c r => if r = true then do let ok ← isTrue c X.env (eval c X.env); pure (ForInStep.yield ok) else pure (ForInStep.yield r)) (TP X pins σ Q) X.xe s
def tYes : TT := fun _ H Q => Q true H
theorem pts_nil {X : Cx} : PTs X [] tYes := fun _ _ _ H _ I h => wpAny_tests_nil ⟨H, I, h⟩
theorem pts_one {X : Cx} {c : Expr} {t : TT} (h : PT X c t) : PTs X [c] t := fun pins s σ H Q I q => wpAny_tests_one (h pins s σ H Q I q)
theorem comp_loop {prog : Program} {w : World} {A : Around} {R : Result → Shared → Prop} {s : Shared} {elt tgt iter : Expr} {ifs : List Expr} {scope : Scope} {pos : Pos} {it acc : Value} {env : Env} (J : Nat → Shared → Prop)
    (turn : ∀ n s, J n s → wpAny (model prog w) A (pyNext it) (fun r s1 => match r with
      | none => R (.ok .next) s1
      | some v => wpAny (model prog w) A (letOwnedTupleGo tgt it v) (fun _ s2 => wpAny (model prog w) A (assign tgt env v) (fun _ s3 =>
          wpAny (model prog w) A (forIn ifs true fun c r => if r = true then do let ok ← isTrue c env (eval c env); pure (ForInStep.yield ok) else pure (ForInStep.yield r)) (fun ok s4 =>
            if ok = true then wpAny (model prog w) A (eval elt env) (fun x s5 =>
              wpAny (model prog w) A (call (.builtin "list.append") [acc, x]) (fun _ s6 => ∃ m, m < n ∧ J m s6) (fun _ _ => False) s5) (fun _ _ => False) s4
            else ∃ m, m < n ∧ J m s4) (fun _ _ => False) s3) (fun _ _ => False) s2) (fun _ _ => False) s1) (fun _ _ => False) s)
    (n : Nat) (h : J n s) :
    codeAny (model prog w) A (.compLoop (.ListComp elt [⟨tgt, iter, ifs, 0⟩] scope pos) 0 it acc env) R s := by
  refine codeAny_loop rfl J (fun n' s' hJ => ?_) n h
  show wpAny _ A ((compTurn (.ListComp elt [⟨tgt, iter, ifs, 0⟩] scope pos) 0 it acc env).onRaise (fun e => do noteFrame e env; theTreesLotGoes e)) _ _ s'
  refine wpAny_noted ?_
  rw [compTurn_list]
  refine wpAny_bind (wpAny_standAt (wpAny_bind (wpAny_mono (turn n' s' hJ) (fun r s1 h1 => ?_) fun _ _ z => z.elim)))
  cases r with
  | none => exact wpAny_pure h1
  | some v =>
    refine wpAny_bind (wpAny_mono h1 (fun _ s2 h2 => ?_) fun _ _ z => z.elim)
    refine wpAny_bind (wpAny_mono h2 (fun _ s3 h3 => wpAny_bind (wpAny_mono h3 (fun ok s4 h4 => ?_) fun _ _ z => z.elim)) fun _ _ z => z.elim)
    cases ok with
    | false => exact wpAny_pure ⟨rfl, h4⟩
    | true =>
      exact wpAny_bind (wpAny_bind (wpAny_mono h4 (fun x s5 h5 => wpAny_bind (wpAny_mono h5 (fun _ s6 h6 => wpAny_pure (wpAny_pure ⟨rfl, h6⟩)) fun _ _ z => z.elim)) fun _ _ z => z.elim))
def CompW (J : It) (k : Nat) (fr : List Nat) (g : TG) (tt : TT) (te : TE) (σ : St) (H1 : Hp) (D : Addr) (Q : VK) : Prop := ∃ W : Nat → Nat → St → Hp → Prop, (∃ m, W 0 m (blk0 k fr σ) (upd H1 D (.lst []))) ∧
  ∀ i m τ H, W i m τ H → (J.stop i H ∧ Q (.ref D) H) ∨ (J.go i H ∧ ∃ N : St → Hp → Prop, (∀ τ' H', N τ' H' → ∃ m', m' < m ∧ W (i + 1) m' τ' H') ∧ ∀ x H', J.yld i H x H' →
    g x τ H' fun τ2 H2 => tt τ2 H2 fun b H3 => if b = true then te τ2 H3 fun y H4 => ∃ ys, H4 D = some (.lst ys) ∧ ys.length < sizeLine ∧ N τ2 (upd H4 D (.lst (ys ++ [y]))) else N τ2 H3)
def tComp (wi : TI) (k : Nat) (fr : List Nat) (g : TG) (tt : TT) (te : TE) : TE := fun σ H Q => wi σ H fun J H1 => ∀ D, H1 D = none → CompW J k fr g tt te σ H1 D Q
theorem wp_comp {X : Cx} {pins : List (Addr × Obj)} {σ : St} {H : Hp} {s : Shared} {elt tgt iter : Expr} {ifs : List Expr} {scope : Scope} {pos pos' : Pos} {N : List Str} {k : Nat} {fr : List Nat} {wi : TI} {g : TG} {tt : TT} {te : TE}
    {use : Option (Value → Sem Unit)} {R : VK} {Qv : Value → Shared → Prop}
    (B : Blk X.N X.env.scope scope N k fr) (hc : X.calm = true) (hi : PI X tgt iter wi)
    (hg : ∀ cl C fp s H, PG (X.blk N scope cl C fp s H) tgt g) (ht : ∀ cl C fp s H, PTs (X.blk N scope cl C fp s H) ifs tt) (he : ∀ cl C fp s H, PE (X.blk N scope cl C fp s H) elt te)
    (I : Inv X pins σ H s) (h : tComp wi k fr g tt te σ H R)
    (fin : ∀ D H' s' C m, Inv X pins σ H' s' → FpOk X pins H' C → s'.heap.Ns C m → R (.ref D) H' → compPost (model X.prog X.w) X.A X.xe use Qv (.ref D) C (.ok .next) s')
    (hs : ∀ x, foldedSetIterable iter X.env x = pure x) :
    wpAny (model X.prog X.w) X.A (comprehension (.ListComp elt [⟨tgt, iter, ifs, 0⟩] scope pos) scope X.env pos' (newList []) false (eval iter X.env) use) Qv X.xe s := by
  obtain ⟨cl, hcl, c1, c2⟩ := closed (scope := scope) (env := X.env) fun x hx => I.ok.has x (B.free x hx)
  refine wpAny_comprehension_free rfl hs hcl B.kind B.own (thn (hi pins s σ H _ I h) fun v s1 h1 => thn h1 fun itv s2 h2 => ?_)
  obtain ⟨it, fp, tn, J, H2, e, I2, T, st2, f2, w2⟩ := h2
  subst e
  refine wpAny_newObj_type (wpAny_newFunctionEnv B.cell (by intro y hy; simp at hy) (fun h4 hns hsb => ?_) B.kind)
  dsimp only at hns hsb ⊢
  generalize hA : s2.heap.push { cls := .type "list", dict := none, data := .seq ([] : List Value).toArray } = hA2 at hns hsb ⊢
  have hC : hA2.objs.size = s2.heap.objs.size + 1 := by rw [← hA, Heap.size_push]
  have hDC : s2.heap.objs.size ≠ hA2.objs.size := by rw [hC]; exact Nat.ne_of_lt (Nat.lt_succ_self _)
  have kp : ∀ b o, s2.heap.get? b = some o → h4.get? b = some o := fun b o q => by
    have hb := Heap.lt_size q
    exact hsb.extBut b o (by rw [hC]; exact Nat.ne_of_lt (Nat.lt_succ_of_lt hb)) (Heap.get?_push_of_some _ (by rw [← hA]; exact Heap.get?_push_of_some _ q))
  have hlD : h4.get? s2.heap.objs.size = some { cls := .type "list", data := .seq #[] } := hsb.extBut _ _ hDC (Heap.get?_push_of_some _ (by rw [← hA]; exact Heap.get?_push_size _ rfl))
  have ob2 : ∀ b ∈ fp, ∃ o, s2.heap.get? b = some o := fun b hb => let ⟨o, q, _⟩ := T.obj _ _ st2 b hb; ⟨o, q⟩
  obtain ⟨W, ⟨m0, w0⟩, turn⟩ := w2 s2.heap.objs.size I2.fresh
  have I4 : Inv (X.blk N scope cl hA2.objs.size fp s2 H2) [] (blk0 k fr σ) (upd H2 s2.heap.objs.size (.lst [])) { s2 with heap := h4, toks := s2.toks + ([] : List (Str × Value)).length } :=
    blk_start B I2 f2 ob2 c1 c2 rfl ⟨I2.bare.1, Nat.le_trans I2.bare.2 (Nat.le_add_right _ _)⟩ (by rw [hC]; omega) (Nat.le_refl _) hDC kp hns hlD
  have tn4 : tn 0 h4 := T.keep _ _ _ st2 fun b _ o q => kp b o q
  have fpD : ∀ b ∈ fp, b ≠ s2.heap.objs.size := fun b hb z => by
    obtain ⟨o, q⟩ := ob2 b hb
    exact absurd (Heap.lt_size q) (by rw [z]; exact Nat.lt_irrefl _)
  have stat : ∀ {H' : Hp}, (∀ b ∈ fp, H' b = none) → ∀ b ∈ fp, FpOk (X.blk N scope cl hA2.objs.size fp s2 H2) [] H' b := fun {H'} hn b hb => by
    obtain ⟨o, q⟩ := ob2 b hb
    have hlt := Heap.lt_size q
    exact ⟨hn b hb, by show b ≠ hA2.objs.size; rw [hC]; exact Nat.ne_of_lt (Nat.lt_succ_of_lt hlt), I4.ok.exfs b hb, .inl hb, fun x c ec => (f2 b hb).2.2.2.2.1 x c (c1 x c ec), fun p hp => absurd (show p ∈ ([] : List (Addr × Obj)) from hp) (by simp)⟩
  have loop : ∀ s5 : Shared, s5 = { s2 with heap := h4, toks := s2.toks + ([] : List (Str × Value)).length } →
      codeAny (model X.prog X.w) X.A (.compLoop (.ListComp elt [⟨tgt, iter, ifs, 0⟩] scope pos) 0 (.ref it) (.ref s2.heap.objs.size) (compEnvC scope cl hA2.objs.size X.env)) (compPost (model X.prog X.w) X.A X.xe use Qv (.ref s2.heap.objs.size) hA2.objs.size) s5 := by
    rintro s5 rfl
    refine comp_loop (fun n s' => ∃ i τ H', Inv (X.blk N scope cl hA2.objs.size fp s2 H2) [] τ H' s' ∧ tn i s'.heap ∧ (∀ b ∈ fp, H' b = none) ∧ W i n τ H') ?_ m0 ⟨0, _, _, I4, tn4, fun b hb => by rw [upd_ne (fpD b hb)]; exact (f2 b hb).1, w0⟩
    rintro n s6 ⟨i, τ6, H6, I6, st6, fr6, w6⟩
    rcases turn i n τ6 H6 w6 with ⟨stop, qn⟩ | ⟨go, Nn, hN, step⟩
    · refine thn (T.done (X.blk N scope cl hA2.objs.size fp s2 H2) rfl rfl rfl hc i [] s6 τ6 H6 _ I6 (stat fr6) st6 stop) fun r s7 ⟨hr, I7⟩ => ?_
      subst hr
      obtain ⟨m, hm, _⟩ := id I7.loc
      have u7 : Un (frs X.stack) fp H2 H6 s2.heap s7.heap := I7.base
      have IX : Inv X pins σ H6 s7 := I2.call' I7.os u7 I7.hok I7.bare fun b hb => ⟨(f2 b hb).2.2.2.1, (f2 b hb).2.1, (f2 b hb).2.2.2.2.1, (f2 b hb).2.2.2.2.2⟩
      exact fin _ H6 s7 hA2.objs.size m IX (I2.fpOk (by rw [hC]; omega) I7.free) hm qn
    · refine thn (T.item (X.blk N scope cl hA2.objs.size fp s2 H2) rfl rfl rfl hc i [] s6 τ6 H6 _ I6 (stat fr6) st6 go) fun r s7 ⟨u, hr, h7⟩ => ?_
      subst hr
      refine thn h7 fun _ s8 ⟨x, H8, I8, r8, y8, st8, fr8⟩ => ?_
      have I8' := I8.pinned (stat fr8) (T.obj _ _ st8)
      refine thn (hg cl _ fp s2 H2 _ s8 τ6 H8 x u _ I8' r8 (step x H8 y8)) fun _ s9 ⟨τ9, H9, I9, q9⟩ => ?_
      refine thn (ht cl _ fp s2 H2 _ s9 τ9 H9 _ I9 q9) fun ok s10 ⟨H10, I10, q10⟩ => ?_
      have again : ∀ {τ' : St} {H' : Hp} {s' : Shared}, Inv (X.blk N scope cl hA2.objs.size fp s2 H2) ([] ++ pinsAt fp s8.heap) τ' H' s' → Nn τ' H' →
          ∃ m, m < n ∧ ∃ i τ H', Inv (X.blk N scope cl hA2.objs.size fp s2 H2) [] τ H' s' ∧ tn i s'.heap ∧ (∀ b ∈ fp, H' b = none) ∧ W i m τ H' := fun {τ' H' s'} I' n' => by
        obtain ⟨m', hm, w'⟩ := hN τ' H' n'
        refine ⟨m', hm, i + 1, τ', H', I'.unpinned, T.keep _ _ _ st8 fun b hb o q => (I'.pin (b, o) (List.mem_append_right _ (List.mem_append_right _ (mem_pinsAt hb q)))).1, fun b hb => ?_, w'⟩
        obtain ⟨o, q, d⟩ := T.obj _ _ st8 b hb
        exact (I'.pin (b, o) (List.mem_append_right _ (List.mem_append_right _ (mem_pinsAt hb q)))).2.1
      cases ok with
      | false =>
        rw [if_neg Bool.false_ne_true] at q10 ⊢
        exact again I10 q10
      | true =>
        rw [if_pos rfl] at q10 ⊢
        refine thn (he cl _ fp s2 H2 _ s10 τ9 H10 _ I10 q10) fun y s11 ⟨vy, H11, I11, r11, ys, hys, hz, n11⟩ => ?_
        refine thn (mt_append _ s11 τ9 H11 (.ref s2.heap.objs.size) [vy] (.ref s2.heap.objs.size) [y] (fun _ H' => Nn τ9 H') I11 rfl (.cons r11 .nil) ⟨_, ys, vy, rfl, rfl, hys, hz, n11⟩) fun z s12 ⟨_, H12, I12, _, n12⟩ => ?_
        exact again I12 n12
  exact codeAny_compStart_list (loop _ rfl) (T.self _ _ _ _ _ tn4 (loop _ rfl))
theorem pe_comp {X : Cx} {elt tgt iter : Expr} {ifs : List Expr} {scope : Scope} {pos : Pos} {N : List Str} {k : Nat} {fr : List Nat} {wi : TI} {g : TG} {tt : TT} {te : TE}
    (B : blkB X.N X.env.scope scope N k fr = true) (hc : X.calm = true) (hi : PI X tgt iter wi)
    (hg : ∀ cl C fp s H, PG (X.blk N scope cl C fp s H) tgt g) (ht : ∀ cl C fp s H, PTs (X.blk N scope cl C fp s H) ifs tt) (he : ∀ cl C fp s H, PE (X.blk N scope cl C fp s H) elt te)
    (hs : ∀ x, foldedSetIterable iter X.env x = pure x := by intro _; rfl) :
    PE X (.ListComp elt [⟨tgt, iter, ifs, 0⟩] scope pos) (tComp wi k fr g tt te) := by
  intro pins s σ H Q I h
  rw [eval_ListComp]
  refine wp_comp (use := none) (R := Q) (blk_of B) hc hi hg ht he I h (fun D H' s' C m I' f' hn q => ?_) hs
  refine ⟨m, hn, fun h' sb => ?_⟩
  obtain ⟨f0, f1, f2, f3, f4, f5⟩ := f'
  have I'' : Inv X pins σ H' { s' with heap := h' } := I'.turned (t' := s'.toks) (fun b o hb e => (sb.2 b hb).trans e) f0 f1 f3 f4 f5
  exact ⟨.ref D, H', I'', rfl, q⟩
theorem ps_setComp {X : Cx} {i : Nat} {y : Str} {elt tgt iter : Expr} {ifs : List Expr} {scope : Scope} {pos py pos' : Pos} {N : List Str} {k : Nat} {fr : List Nat} {wi : TI} {g : TG} {tt : TT} {te : TE}
    (hN : X.N.Nodup) (hiy : X.N[i]? = some y) (hy : Loc X.env.scope y)
    (B : blkB X.N X.env.scope scope N k fr = true) (hc : X.calm = true) (hi : PI X tgt iter wi)
    (hg : ∀ cl C fp s H, PG (X.blk N scope cl C fp s H) tgt g) (ht : ∀ cl C fp s H, PTs (X.blk N scope cl C fp s H) ifs tt) (he : ∀ cl C fp s H, PE (X.blk N scope cl C fp s H) elt te)
    (hsw : swapsWith (.ListComp elt [⟨tgt, iter, ifs, 0⟩] scope pos) (some (.Name y py)) pos'.line X.env = pure true)
    (hs : ∀ x, foldedSetIterable iter X.env x = pure x := by intro _; rfl)
    (hf : X.fn y = true ∨ X.env.scope.names.lookup y = some .local := by first | exact .inl rfl | exact .inr rfl | assumption) :
    PS X (.Assign [.Name y py] (.ListComp elt [⟨tgt, iter, ifs, 0⟩] scope pos) pos') (fun D σ H => tComp wi k fr g tt te σ H fun v H' => D.nx (σ.set i (some v)) H') := by
  intro pins s σ H D I h
  rw [exec_Assign_Name_used _ _ _ _ hsw]
  refine wpAny_bind (wpAny_standAt (wpAny_bind ?_))
  show wpAny _ X.A (do let _ ← comprehension (.ListComp elt [⟨tgt, iter, ifs, 0⟩] scope pos) scope X.env _ (newList []) false (eval iter X.env) (some (assign (.Name y py) X.env))) _ _ s
  refine wpAny_bind (thn (wp_comp (use := some (assign (.Name y py) X.env)) (Qv := fun _ s' => SP X pins D .next s') (blk_of B) hc hi hg ht he I h (fun D' H' s' C m I' f' hn q => ?_) hs) fun _ s' q => wpAny_pure (wpAny_pure q))
  show wpAny _ X.A (assign (.Name y py) X.env (.ref D')) _ _ _
  obtain ⟨f0, f1, f2, f3, f4, f5⟩ := f'
  refine wpAny_assign_Name (store_ok2 I' hN hiy hy (v := .ref D') rfl (fun s'' I'' ⟨a, sb, ha⟩ => ?_) hf)
  have hCa : C ≠ a := by
    rcases ha with z | z
    · rw [z]; exact f1
    · exact fun q => f4 y a z q.symm
  refine ⟨m, hn.sameBut sb hCa, fun h' sb' => ?_⟩
  have I3 : Inv X pins (σ.set i (some (.ref D'))) H' { s'' with heap := h' } := I''.turned (t' := s''.toks) (fun b o hb e => (sb'.2 b hb).trans e) f0 f1 f3 f4 f5
  exact ⟨_, H', I3, q⟩
def Its (x : Str) : It := ⟨fun i _ => i < x.length, fun i H v H' => H' = H ∧ ∃ c, x.cps[i]? = some c ∧ v = .str ⟨#[c]⟩, fun i _ => x.length ≤ i⟩
theorem turn_str {P : Program} {w : World} {K : PySem.W.Frag} {tg : Expr} (it : Addr) (x : Str) (t : Tok) : Turn P w K tg (Its x) [it] it (fun i h => i ≤ x.length ∧ h.IsStrIter it (strIterType x) x t i) where
  mem := by simp
  obj := fun i h st b hb => by
    have e : b = it := by simpa using hb
    subst e
    obtain ⟨_, o, e, c, d⟩ := st
    exact ⟨o, e, fun v z => by rw [d] at z; cases z⟩
  keep := fun i h h' st k => by
    obtain ⟨l, o, e, r⟩ := st
    exact ⟨l, o, k it (by simp) o e, r⟩
  item := by
    intro X hP hw hK hc i pins s σ H E I hf st hg
    subst hP hw hK
    obtain ⟨f0, f1, f2, f3, f4, f5⟩ := hf it (by simp)
    have hg' : i < x.cps.size := hg
    have fin : ∀ (h' : Heap), h'.IsStrIter it (strIterType x) x t (i + 1) → Heap.SameBut it s.heap h' → ∃ u, some (Value.str ⟨#[x.cps[i]]⟩ s.toks) = some u ∧
        wpAny (model X.prog X.w) X.A (letOwnedTupleGo tg (.ref it) u) (fun _ s2 => ∃ y H', Inv X pins σ H' s2 ∧ RelV y u ∧ (Its x).yld i H y H' ∧ ((i + 1) ≤ x.length ∧ s2.heap.IsStrIter it (strIterType x) x t (i + 1)) ∧ ∀ b ∈ [it], H' b = none) E { s with heap := h', toks := s.toks + 1 } := fun h' st' sb => by
      have I1 : Inv X pins σ H { s with heap := h', toks := s.toks + 1 } := I.turned (fun b o hb e => (sb.2 b hb).trans e) f0 f1 f3 f4 f5
      refine ⟨_, rfl, ?_⟩
      have z : wpAny (model X.prog X.w) X.A (pure ()) (fun _ s2 => ∃ y H', Inv X pins σ H' s2 ∧ RelV y (Value.str ⟨#[x.cps[i]]⟩ s.toks) ∧ (Its x).yld i H y H' ∧ ((i + 1) ≤ x.length ∧ s2.heap.IsStrIter it (strIterType x) x t (i + 1)) ∧ ∀ b ∈ [it], H' b = none) E { s with heap := h', toks := s.toks + 1 } :=
        wpAny_pure ⟨.str ⟨#[x.cps[i]]⟩, H, I1, ⟨_, rfl⟩, ⟨rfl, _, by simp [hg'], rfl⟩, ⟨hg', st'⟩, fun b hb => (hf b hb).1⟩
      unfold letOwnedTupleGo
      cases tg <;> exact z
    have st2 := st.2
    cases ha : x.cps.all (· < 128)
    · have e : strIterType x = "str_iterator" := by simp [strIterType, ha]
      rw [e] at st2 fin
      rw [e]
      exact wpAny_pyNext_wide_item st2 (c := x.cps[i]) (by simp [hg']) fun h' st' sb => fin h' st' sb
    · have e : strIterType x = "str_ascii_iterator" := by simp [strIterType, ha]
      rw [e] at st2 fin
      rw [e]
      exact wpAny_pyNext_ascii_item st2 (c := x.cps[i]) (by simp [hg']) fun h' st' sb => fin h' st' sb
  done := by
    intro X hP hw hK hc i pins s σ H E I hf st hg
    subst hP hw hK
    obtain ⟨f0, f1, f2, f3, f4, f5⟩ := hf it (by simp)
    have hx : x.cps[i]? = none := by
      have hg' : x.cps.size ≤ i := hg
      simp [hg']
    have st2 := st.2
    cases ha : x.cps.all (· < 128)
    · have e : strIterType x = "str_iterator" := by simp [strIterType, ha]
      rw [e] at st2
      exact wpAny_pyNext_wide_end (I.ok.hd hc) st2 hx fun h' eb => ⟨rfl, I.turned (t' := s.toks) (fun b o hb e => eb b o hb e) f0 f1 f3 f4 f5⟩
    · have e : strIterType x = "str_ascii_iterator" := by simp [strIterType, ha]
      rw [e] at st2
      exact wpAny_pyNext_ascii_end (I.ok.hd hc) st2 hx fun h' eb => ⟨rfl, I.turned (t' := s.toks) (fun b o hb e => eb b o hb e) f0 f1 f3 f4 f5⟩
  self := fun A i s Q E st h => by
    have st2 := st.2
    cases ha : x.cps.all (· < 128)
    · have e : strIterType x = "str_iterator" := by simp [strIterType, ha]
      rw [e] at st2
      exact wpAny_pyIter_striter_wide st2 h
    · have e : strIterType x = "str_ascii_iterator" := by simp [strIterType, ha]
      rw [e] at st2
      exact wpAny_pyIter_striter_ascii st2 h
def iStr (te : TE) : TI := fun σ H R => te σ H fun v H1 => ∃ x, v = .str x ∧ R (Its x) H1
theorem pi_str {X : Cx} {tg e : Expr} {te : TE} (he : PE X e te) : PI X tg e (iStr te) := by
  intro pins s σ H R I h
  refine thn (he pins s σ H _ I h) fun v s1 ⟨y, H1, I1, r1, q1⟩ => ?_
  obtain ⟨x, e, q⟩ := q1
  subst e
  obtain ⟨t, rfl⟩ := r1
  refine wpAny_pyIter_strU ?_
  refine ⟨s1.heap.objs.size, [s1.heap.objs.size], _, _, H1, rfl, I1.kept (t' := s1.toks) fun b o e => Heap.get?_push_of_some _ e, turn_str _ x t, ⟨Nat.zero_le _, _, Heap.get?_push_size _ rfl, rfl, rfl⟩, fun b hb => ?_, q⟩
  have e : b = s1.heap.objs.size := by simpa using hb
  subst e
  exact I1.fpOk (Nat.le_refl _) (I1.hok.fresh (Nat.le_refl _))
def Ite (x : Str) : It := ⟨fun i _ => i < x.length, fun i H v H' => ∃ p c, H p = none ∧ x.cps[i]? = some c ∧ v = .ref p ∧ H' = upd H p (.tup [.int i, .str ⟨#[c]⟩]), fun i _ => x.length ≤ i⟩
theorem turn_enumS {P : Program} {w : World} {K : PySem.W.Frag} {es : List Expr} {k : Nat} {tp : Pos} (e it : Addr) (hei : e ≠ it) (x : Str) (t : Tok) :
    Turn P w K (.Tuple es k tp) (Ite x) [e, it] e (fun i h => i ≤ x.length ∧ (∃ old, IsEnum h e it i old) ∧ h.IsStrIter it (strIterType x) x t i) where
  mem := by simp
  obj := fun i h st b hb => by
    obtain ⟨_, ⟨old, h1⟩, o, h2, h3, h4⟩ := st
    rcases List.mem_cons.mp hb with z | z
    · subst z
      exact ⟨_, h1, fun v q => by cases q⟩
    · have z' : b = it := by simpa using z
      subst z'
      exact ⟨o, h2, fun v q => by rw [h4] at q; cases q⟩
  keep := fun i h h' st kp => by
    obtain ⟨l, ⟨old, h1⟩, o, h2, r⟩ := st
    exact ⟨l, ⟨old, kp e (by simp) _ h1⟩, o, kp it (by simp) o h2, r⟩
  item := by
    intro X hP hw hK hc i pins s σ H E I hf st hg
    subst hP hw hK
    have hg' : i < x.cps.size := hg
    obtain ⟨_, ⟨old, he⟩, hit⟩ := st
    have helt : e < s.heap.objs.size := Heap.lt_size he
    have hilt : it < s.heap.objs.size := by obtain ⟨_, q, _⟩ := id hit; exact Heap.lt_size q
    have go : ∀ {St : Nat → Heap → Prop}, (∀ j h, St j h ↔ h.IsStrIter it (strIterType x) x t j) → Draws X.prog X.w X.A.in1 it [it] x.cps.size (fun i v => ∃ c u, x.cps[i]? = some c ∧ v = .str ⟨#[c]⟩ u) St →
        wpAny (model X.prog X.w) X.A (pyNext (.ref e)) (fun r s1 => ∃ u, r = some u ∧ wpAny (model X.prog X.w) X.A (letOwnedTupleGo (.Tuple es k tp) (.ref e) u) (fun _ s2 => ∃ y H', Inv X pins σ H' s2 ∧ RelV y u ∧ (Ite x).yld i H y H' ∧
          ((i + 1) ≤ x.length ∧ (∃ old, IsEnum s2.heap e it ((i + 1 : Nat) : Int) old) ∧ s2.heap.IsStrIter it (strIterType x) x t (i + 1)) ∧ ∀ b ∈ [e, it], H' b = none) E s1) E s := fun {St} hSt D => by
      refine wpAny_with_toks (Nat.le_refl s.toks) (wpAny_pyNext_enum_itemD D he ((hSt _ _).mpr hit) hg' hei (by simp [hei]) fun u h1 tk hP ho hst' hT hsz hk htk => ?_)
      obtain ⟨c, tu, hcx, rfl⟩ := hP
      refine ⟨_, rfl, wpAny_letOwnedTupleGo_enum ho fun h2 he2 hs2 => ?_⟩
      have hs2' : Heap.SameBut e h1 h2 := hs2
      have ndp : s.heap.objs.size ≠ e := Nat.ne_of_gt helt
      have hT2 : h2.get? s.heap.objs.size = some { cls := .type "tuple", data := .seq #[.int i tk, .str ⟨#[c]⟩ tu] } := (hs2'.2 _ ndp).trans hT
      have kp : ∀ b o, b ≠ e → b ≠ it → s.heap.get? b = some o → h2.get? b = some o := fun b o n1 n2 q => (hs2'.2 b n1).trans (hk b o n1 n2 q)
      have pn : H s.heap.objs.size = none := I.hok.fresh (Nat.le_refl _)
      have fpp : FpOk X pins H s.heap.objs.size := I.fpOk (Nat.le_refl _) pn
      have fpe : FpOk X pins H e := hf e (by simp)
      have fpi : FpOk X pins H it := hf it (by simp)
      have tupNe : ∀ b xs, H b = some (.tup xs) → b ≠ s.heap.objs.size := fun b xs q => ne_of_none q pn
      have hok1 : HOk X.prog X.w H h2 := fun b o q => by
        have nb : ∀ z, H z = none → b ≠ z := fun z hz => ne_of_none q hz
        refine (I.hok b o q).stay (fun c' v' hc' q' => kp c' v' ?_ ?_ q') (fun _ z => z) fun _ _ z => z
        · rcases hc' with z | z
          · rw [z]; exact nb e fpe.1
          · exact ne_of_none z fpe.1
        · rcases hc' with z | z
          · rw [z]; exact nb it fpi.1
          · exact ne_of_none z fpi.1
      have hok2 : HOk X.prog X.w (upd H s.heap.objs.size (.tup [.int i, .str ⟨#[c]⟩])) h2 := fun b o q => by
        by_cases hb : b = s.heap.objs.size
        · subst hb
          rw [upd_same] at q
          cases q
          refine ⟨(by show 2 ≤ sizeLine; rw [sizeLine_eq]; decide), [.int i tk, .str ⟨#[c]⟩ tu], .cons ⟨tk, rfl⟩ (.cons ⟨tu, rfl⟩ .nil), _, hT2, rfl, _, rfl⟩
        · rw [upd_ne hb] at q
          exact (hok1 b o q).stay (fun _ _ _ z => z) (fun c' z => by rw [upd_ne (ne_of_none z pn)]; exact z) fun c' xs z => by rw [upd_ne (tupNe c' xs z)]; exact z
      have I1 : Inv X pins σ (upd H s.heap.objs.size (.tup [.int i, .str ⟨#[c]⟩])) { s with heap := h2, toks := tk + 1 } := by
        refine I.step (g' := s.gens) (d' := s.drawn) (ch := [e, it, s.heap.objs.size]) (fun b hb => ?_) (fun b o _ _ hch q _ => kp b o (fun z => hch (by simp [z])) (fun z => hch (by simp [z])) q)
          (fun b o _ _ hch q _ => ⟨o.slots, kp b o (fun z => hch (by simp [z])) (fun z => hch (by simp [z])) q⟩) (fun b o hch _ n => by rw [upd_ne (fun z => hch (by simp [z]))]; exact n)
          (fun b o hch q => ⟨o, kp b o (fun z => hch (by simp [z])) (fun z => hch (by simp [z])) q⟩) (fun b xs q => by rw [upd_ne (ne_of_none q pn)]; exact q) (fun b o u q => by rw [upd_ne (ne_of_none q pn)]; exact q)
          (fun b ps q => ⟨#[], by rw [upd_ne (ne_of_none q pn), q]; simp⟩) (fun m hm => ?_) hok2 ⟨I.bare.1, Nat.le_trans I.bare.2 htk⟩
        · rcases List.mem_cons.mp hb with z | hb
          · subst z; exact ⟨fpe.2.2.2.1, fpe.2.1, fpe.2.2.2.2.1, fpe.2.2.2.2.2⟩
          · rcases List.mem_cons.mp hb with z | hb
            · subst z; exact ⟨fpi.2.2.2.1, fpi.2.1, fpi.2.2.2.2.1, fpi.2.2.2.2.2⟩
            · have z : b = s.heap.objs.size := by simpa using hb
              subst z; exact ⟨fpp.2.2.2.1, fpp.2.1, fpp.2.2.2.2.1, fpp.2.2.2.2.2⟩
        · obtain ⟨o, es', ep, ho', r⟩ := hm
          exact ⟨o, es', ep, kp _ o (Ne.symm fpe.2.1) (Ne.symm fpi.2.1) ho', r⟩
      refine ⟨.ref s.heap.objs.size, _, I1, rfl, ⟨_, c, pn, hcx, rfl, rfl⟩, ⟨hg', ⟨Value.str ⟨#[c]⟩ tu, ?_⟩, ?_⟩, fun b hb => ?_⟩
      · have ec : (((i + 1 : Nat)) : Int) = (i : Int) + 1 := by omega
        rw [ec]
        exact he2
      · have hi1 := (hSt _ _).mp hst'
        obtain ⟨o, q, r⟩ := hi1
        exact ⟨o, (hs2'.2 it hei.symm).trans q, r⟩
      · rcases List.mem_cons.mp hb with z | z
        · subst z; rw [upd_ne (Ne.symm ndp)]; exact fpe.1
        · have z' : b = it := by simpa using z
          subst z'; rw [upd_ne (Nat.ne_of_lt hilt)]; exact fpi.1
    cases ha : x.cps.all (· < 128)
    · have ee : strIterType x = "str_iterator" := by simp [strIterType, ha]
      exact go (fun j h => by rw [ee]) (Draws.strWide (A := X.A.in1) (I.ok.hd hc) it x t)
    · have ee : strIterType x = "str_ascii_iterator" := by simp [strIterType, ha]
      exact go (fun j h => by rw [ee]) (Draws.strAscii (A := X.A.in1) (I.ok.hd hc) it x t)
  done := by
    intro X hP hw hK hc i pins s σ H E I hf st hg
    subst hP hw hK
    obtain ⟨hle, ⟨old, he⟩, hit⟩ := st
    obtain ⟨f0, f1, f2, f3, f4, f5⟩ := hf it (by simp)
    have hg' : x.cps.size ≤ i := hg
    have stop : ∀ {St : Nat → Heap → Prop}, (∀ j h, St j h ↔ h.IsStrIter it (strIterType x) x t j) → Draws X.prog X.w X.A.in1 it [it] x.cps.size (fun i v => ∃ c u, x.cps[i]? = some c ∧ v = .str ⟨#[c]⟩ u) St → i = x.cps.size →
        wpAny (model X.prog X.w) X.A (pyNext (.ref e)) (fun r s1 => r = none ∧ Inv X pins σ H s1) E s := fun {St} hSt D hi => by
      subst hi
      exact wpAny_pyNext_enum_endD D he ((hSt _ _).mpr hit) fun h' eb => ⟨rfl, I.turned (t' := s.toks) (fun b o hb q => eb b o hb q) f0 f1 f3 f4 f5⟩
    have ei : i = x.cps.size := Nat.le_antisymm hle hg'
    cases ha : x.cps.all (· < 128)
    · have ee : strIterType x = "str_iterator" := by simp [strIterType, ha]
      exact stop (fun j h => by rw [ee]) (Draws.strWide (A := X.A.in1) (I.ok.hd hc) it x t) ei
    · have ee : strIterType x = "str_ascii_iterator" := by simp [strIterType, ha]
      exact stop (fun j h => by rw [ee]) (Draws.strAscii (A := X.A.in1) (I.ok.hd hc) it x t) ei
  self := fun A i s Q E st h => by
    obtain ⟨_, ⟨old, he⟩, _⟩ := st
    exact wpAny_pyIter_enum he h
def iEnumS (ta : TA) : TI := fun σ H R => ta σ H fun vs H1 => ∃ x, vs = [.str x] ∧ R (Ite x) H1
theorem pi_enumS {X : Cx} {es : List Expr} {k : Nat} {tp : Pos} {a : Expr} {ta : TA} {p pos : Pos} (hg : Gl X "enumerate") (hm : X.mg "enumerate" = none) (ha : PA X [a] ta) (hs : starEach [a] X.env = [(false, eval a X.env)] := by rfl) :
    PI X (.Tuple es k tp) (.Call (.Name "enumerate" p) [a] [] pos) (iEnumS ta) := by
  intro pins s σ H R I h
  refine Call_ (ld_blt I hg hm boot_enumerate (PyProof.Rows.callWith_type1 (thn (ha pos pins s σ H _ I h) fun us s1 ⟨vs, H1, I1, r1, q1⟩ => ?_) hs rfl))
  obtain ⟨x, e, q⟩ := q1
  subst e
  obtain ⟨u, rfl, t, rfl⟩ := vals1 r1
  refine call_enumerate_str fun h' he hit hsz kp => ?_
  refine wpAny_pyIter_enum he ?_
  refine ⟨s1.heap.objs.size + 1, [s1.heap.objs.size + 1, s1.heap.objs.size], _, _, H1, rfl, I1.kept (t' := s1.toks) kp, turn_enumS _ _ (Nat.succ_ne_self _) x t, ⟨Nat.zero_le _, ⟨_, he⟩, hit⟩, fun b hb => ?_, q⟩
  have hb' : s1.heap.objs.size ≤ b := by
    rcases List.mem_cons.mp hb with z | z
    · rw [z]
      exact Nat.le_succ _
    · have z' : b = s1.heap.objs.size := by simpa using z
      rw [z']
      exact Nat.le_refl _
  exact I1.fpOk hb' (I1.hok.fresh hb')
end L2
namespace L2
open PySem PySem.Spec PyProof.Rows
section
variable {X : Cx}
theorem strsAre_of {ss : List Str} : ∀ {us : List Value}, Vals (ss.map V.str) us → StrsAre us ss := by
  induction ss with
  | nil => intro us r; rw [List.map_nil] at r; cases r; exact .nil
  | cons x ss ih =>
    intro us r
    rw [List.map_cons] at r
    cases r with
    | cons r1 r2 =>
      obtain ⟨t, e⟩ := r1
      subst e
      exact .cons x t (ih r2)
theorem vals_strs : ∀ {us : List Value} {ss : List Str}, StrsAre us ss → Vals (ss.map V.str) us
  | _, _, .nil => .nil
  | _, _, .cons x t h => .cons ⟨t, rfl⟩ (vals_strs h)
def rJoin (K : PySem.W.Frag) : V → List V → Hp → VK → Prop := fun x vs H Q => ∃ sep p ys, x = .str sep ∧ vs = [.ref p] ∧ SqL K H p (ys.map V.str) ∧ (ys.map (·.length)).sum + ys.length * sep.length ≤ 16777216 ∧ Q (.str (Txt.join sep ys)) H
theorem mt_join : MtR X "str.join" (rJoin X.K) := by
  intro pins s σ H x vs v us Q I rx rv h
  obtain ⟨sep, p, ys, rfl, rfl, hq, hz, q⟩ := h
  obtain ⟨t, rfl⟩ := rx
  obtain ⟨u, rfl, ru⟩ := rv.one
  cases ru
  obtain ⟨its, r, pl, _⟩ := I.list hq
  exact wpAny_with_toks (Nat.le_refl _) (join_list pl.isList (by simpa using strsAre_of r) hz fun t' k htk => ⟨.str (Txt.join sep ys), H, I.tok k htk, ⟨_, rfl⟩, q⟩)
theorem call_sortedS : CallR X (.builtin "sorted") (fun xs H Q => ∃ p ss, xs = [.ref p] ∧ SqL X.K H p (ss.map V.str) ∧ ss.length < 64 ∧
    ∀ l ss', H l = none → ss'.Perm ss → sortedS ss' = true → Q (.ref l) (upd H l (.lst (ss'.map V.str)))) := by
  intro pins s σ H xs us Q I r h
  obtain ⟨p, ss, rfl, hq, h64, q⟩ := h
  obtain ⟨u, rfl, rx⟩ := vals1 r
  cases rx
  obtain ⟨its, rv, pl, hz⟩ := I.list hq
  have hS := strsAre_of rv
  have hlen := rv.length
  rw [List.length_map] at hlen
  refine sorted_strs pl.isList hS (by omega) fun out ss' h1 h2 h3 => ?_
  obtain ⟨e, he⟩ := sortedAll_at s.heap its out
  have hl2 : (ss'.map V.str).length ≤ sizeLine := by
    rw [List.length_map, h2.length_eq]
    have := hz
    rw [List.length_map] at this
    exact this
  have I1 : Inv X pins σ (upd H (s.heap.objs.size + 1) (.lst (ss'.map V.str))) { s with heap := sortedAll s.heap its out } :=
    I.laid (t' := s.toks) (fun b o z => sortedAll_old z) (Nat.le_succ _) ⟨hl2, out.toList, e, vals_strs h1, by rw [Array.toArray_toList]; exact he⟩
  exact ⟨.ref (s.heap.objs.size + 1), _, I1, rfl, q _ ss' (I.hok.fresh (Nat.le_succ _)) h2 h3⟩
def signsV (x : Str) : List V := x.cps.toList.map fun c => V.str ⟨#[c]⟩
theorem signsV_length (x : Str) : (signsV x).length = x.length := by
  unfold signsV
  rw [List.length_map]
  exact Array.length_toList
theorem signs_vals {x : Str} {acc : Array Value} (h : ItemsOf (SignAt x) acc x.cps.size) : Vals (signsV x) acc.toList := by
  obtain ⟨hz, hi⟩ := h
  have go : ∀ (cs : List Nat) (vs : List Value), cs.length = vs.length → (∀ (j : Nat) v, vs[j]? = some v → ∃ c u, cs[j]? = some c ∧ v = .str ⟨#[c]⟩ u) → Vals (cs.map fun c => V.str ⟨#[c]⟩) vs := by
    intro cs
    induction cs with
    | nil =>
      intro vs hl _
      cases vs with
      | nil => exact .nil
      | cons _ _ => cases hl
    | cons c cs ih =>
      intro vs hl hv
      cases vs with
      | nil => cases hl
      | cons v vs =>
        obtain ⟨c', u, e1, e2⟩ := hv 0 v rfl
        have e1' : c = c' := by simpa using e1
        subst e1'
        exact .cons ⟨u, e2⟩ (ih vs (by simpa using hl) fun j w' e => by simpa using hv (j + 1) w' (by simpa using e))
  refine go _ _ ?_ fun j v e => ?_
  · rw [Array.length_toList, Array.length_toList, hz]
  · obtain ⟨c, u, e1, e2⟩ := hi j v (by simpa using e)
    exact ⟨c, u, by simpa using e1, e2⟩
theorem call_listS (hc : X.calm = true) : CallR X (.type "list") (fun xs H Q => ∃ x, xs = [.str x] ∧ x.length ≤ sizeLine ∧ ∀ l, H l = none → Q (.ref l) (upd H l (.lst (signsV x)))) := by
  intro pins s σ H xs us Q I r h
  obtain ⟨x, rfl, hz, q⟩ := h
  obtain ⟨u, rfl, t, rfl⟩ := vals1 r
  refine wpAny_with_toks (Nat.le_refl _) (call_list_str (I.ok.hd hc) x t (fun h' tk acc c kp he hi htk => ?_) hz)
  have htk : s.toks ≤ tk := htk
  have I1 : Inv X pins σ (upd H s.heap.objs.size (.lst (signsV x))) { s with heap := h', toks := tk } :=
    I.laid kp (Nat.le_refl _) ⟨by rw [signsV_length]; exact hz, acc.toList, c, signs_vals hi, by rw [Array.toArray_toList]; exact he⟩
  exact ⟨.ref s.heap.objs.size, _, I1, rfl, q _ (I.hok.fresh (Nat.le_refl _))⟩
def rSlS : V → Option Int → Option Int → Hp → VK → Prop := fun x lo hi H Q => ∃ z, x = .str z ∧ z.length ≤ sizeLine ∧ Q (.str (Txt.slice z lo hi)) H
theorem sl_str : SlR X rSlS := by
  intro pins s σ H x v vl vu lo hi sl Q I rx hs pl pu h
  obtain ⟨z, rfl, hz, q⟩ := h
  obtain ⟨t, rfl⟩ := rx
  refine ⟨"str", _, F.slot_str_getitem.lookup, typeIs_str _ _ _, wpAny_with_toks (Nat.le_refl _) ?_⟩
  have fin : ∀ (c : Prop) [Decidable c] (y' : Str), (if c then z else y') = Txt.slice z lo hi → (if c then Made.val (.str z t) else Made.str y').post (fun u s' => s.toks ≤ s'.toks → EP X pins σ Q u s') s := fun c _ y' e =>
    post_val_or_str ⟨by rw [e]; exact Nat.le_trans (Txt.slice_le z lo hi) hz, fun t' k => by rw [e]; exact fun htk => ⟨.str (Txt.slice z lo hi), H, I.tok k htk, ⟨_, rfl⟩, q⟩⟩
  cases pl <;> cases pu
  · exact wpAny_getItem_str_slice (l := none) (u := none) (st := none) hs rfl (fin _ _ rfl)
  · rename_i j tj
    exact wpAny_getItem_str_slice (l := none) (u := some (j, tj)) (st := none) hs rfl (fin _ _ rfl)
  · rename_i i ti
    exact wpAny_getItem_str_slice (l := some (i, ti)) (u := none) (st := none) hs rfl (fin _ _ rfl)
  · rename_i i ti j tj
    exact wpAny_getItem_str_slice (l := some (i, ti)) (u := some (j, tj)) (st := none) hs rfl (fin _ _ rfl)
theorem cmpS_lt {prog : Program} {w : World} {A : Around} {P : Nat → Value → Prop} (val : Nat → Str) (hval : ∀ i v, P i v → ∃ t, v = .str (val i) t) : CmpOf prog w A .Lt P (fun i j => decide ((val i).cps.toList < (val j).cps.toList)) := fun i j vi vj s Q E hi hj h => by
  obtain ⟨t, rfl⟩ := hval i vi hi
  obtain ⟨u, rfl⟩ := hval j vj hj
  exact richCompare_gives (op := .Lt) (typeIs_str s _ t) (typeIs_str s _ u) F.slot_str_lt F.entry_str_lt (F.args_str_lt_2 _ _) (gives_str_lt _ _ t u) (fun x => nomatch x) h
theorem cmpS_gt {prog : Program} {w : World} {A : Around} {P : Nat → Value → Prop} (val : Nat → Str) (hval : ∀ i v, P i v → ∃ t, v = .str (val i) t) : CmpOf prog w A .Gt P (fun i j => decide ((val j).cps.toList < (val i).cps.toList)) := fun i j vi vj s Q E hi hj h => by
  obtain ⟨t, rfl⟩ := hval i vi hi
  obtain ⟨u, rfl⟩ := hval j vj hj
  exact richCompare_gives (op := .Gt) (typeIs_str s _ t) (typeIs_str s _ u) F.slot_str_gt F.entry_str_gt (F.args_str_gt_2 _ _) (gives_str_gt _ _ t u) (fun x => nomatch x) h
theorem two_walk {prog : Program} {w : World} {A : Around} {E : Value → Shared → Prop} {s : Shared} {va vb : Value} {Q : Value → Shared → Prop} (hh : A.handled = none) (bt : Nat → Nat → Bool) {op : CmpOp}
    (hcmp : CmpOf prog w A.in1 op (fun i v => (#[va, vb] : Array Value)[i]? = some v) bt) (h : ∀ h' tk, (∀ c o, s.heap.get? c = some o → h'.get? c = some o) → Q (if bt 1 0 = true then vb else va) { s with heap := h', toks := tk }) :
    wpAny (model prog w) A.in1 (pyIter (.ref s.heap.objs.size)) (fun it s₂ => ∃ I fp wr n P St bt, it = .ref I ∧ Walks prog w A.in1 I fp wr n P St ∧ St 0 s₂.heap ∧ (∀ b ∈ fp, b < s₂.heap.objs.size) ∧ 0 < n ∧ CmpOf prog w A.in1 op P bt ∧
      ∀ v h' tk, P (argBest bt (n - 1)) v → (∀ b o, b ∉ wr → s₂.heap.get? b = some o → h'.get? b = some o) → Q v { s₂ with heap := h', toks := tk }) E
      { s with heap := s.heap.push { cls := .type "tuple", data := .seq #[va, vb] } } := by
  have hT : (s.heap.push { cls := .type "tuple", data := .seq #[va, vb] }).IsTuple s.heap.objs.size #[va, vb] := ⟨_, Heap.get?_push_size _ rfl, rfl, 0, rfl⟩
  have hsz : (s.heap.push { cls := .type "tuple", data := .seq #[va, vb] }).objs.size = s.heap.objs.size + 1 := Heap.size_push ..
  refine wpAny_pyIter_tuple hT ?_
  refine ⟨_, [_, s.heap.objs.size], [_], _, _, _, bt, rfl, Walks.tuple (A := A.in1) hh _ s.heap.objs.size (by rw [hsz]; exact Nat.ne_of_lt (Nat.lt_succ_self _)) #[va, vb], ⟨⟨_, Heap.get?_push_size _ rfl, rfl, rfl⟩, hT.push _⟩, fun c hc => ?_, by simp, hcmp, fun v h' tk hP hk => ?_⟩
  · show c < ((s.heap.push _).push _).objs.size
    rw [Heap.size_push, hsz]
    rcases List.mem_cons.mp hc with z | z
    · rw [z, hsz]; exact Nat.lt_succ_self _
    · have z' : c = s.heap.objs.size := by simpa using z
      rw [z']; exact Nat.lt_succ_of_lt (Nat.lt_succ_self _)
  · have hv : v = if bt 1 0 = true then vb else va := by
      have hP' : (#[va, vb] : Array Value)[argBest bt 1]? = some v := hP
      by_cases hb : bt 1 0 = true
      · have e : argBest bt 1 = 1 := by simp [argBest, hb]
        rw [e] at hP'
        rw [if_pos hb]
        simpa using hP'.symm
      · have e : argBest bt 1 = 0 := by simp [argBest, hb]
        rw [e] at hP'
        rw [if_neg hb]
        simpa using hP'.symm
    rw [hv]
    refine h h' tk fun c o z => ?_
    refine hk c o (fun hm => ?_) (Heap.get?_push_of_some _ (Heap.get?_push_of_some _ z))
    have e1 : c = (s.heap.push { cls := .type "tuple", data := .seq #[va, vb] }).objs.size := by simpa using hm
    have y := Heap.lt_size z
    rw [e1, hsz] at y
    exact Nat.lt_irrefl _ (Nat.lt_of_succ_lt y)
def strAt2 (a b : Str) (i : Nat) : Str := if i = 0 then a else b
theorem strAt2_is {a b : Str} {t u : Tok} {i : Nat} {v : Value} (h : (#[.str a t, .str b u] : Array Value)[i]? = some v) : ∃ t', v = .str (strAt2 a b i) t' := by
  match i, h with
  | 0, h => exact ⟨t, by simpa [strAt2] using h.symm⟩
  | 1, h => exact ⟨u, by simpa [strAt2] using h.symm⟩
  | n + 2, h => simp at h
theorem call_minS (hc : X.calm = true) : CallR X (.builtin "min") (fun xs H Q => ∃ a b, xs = [.str a, .str b] ∧ Q (.str (if b.cps.toList < a.cps.toList then b else a)) H) := by
  intro pins s σ H xs us Q I r h
  obtain ⟨a, b, rfl, q⟩ := h
  obtain ⟨u, w', rfl, ⟨t, rfl⟩, ⟨t', rfl⟩⟩ := vals2 r
  refine wpAny_with_toks (Nat.le_refl _) (call_min_two (two_walk (s := s) (Q := fun u s' => s.toks ≤ s'.toks → EP X pins σ Q u s') (I.ok.hd hc) _ (cmpS_lt (strAt2 a b) fun _ _ => strAt2_is) fun h' tk k htk => ⟨_, H, I.kept k htk, ?_, q⟩))
  by_cases hj : b.cps.toList < a.cps.toList
  · rw [if_pos (show decide ((strAt2 a b 1).cps.toList < (strAt2 a b 0).cps.toList) = true from decide_eq_true hj), if_pos hj]; exact ⟨_, rfl⟩
  · rw [if_neg (show ¬ decide ((strAt2 a b 1).cps.toList < (strAt2 a b 0).cps.toList) = true by rw [decide_eq_true_iff]; exact hj), if_neg hj]; exact ⟨_, rfl⟩
theorem call_maxS (hc : X.calm = true) : CallR X (.builtin "max") (fun xs H Q => ∃ a b, xs = [.str a, .str b] ∧ Q (.str (if a.cps.toList < b.cps.toList then b else a)) H) := by
  intro pins s σ H xs us Q I r h
  obtain ⟨a, b, rfl, q⟩ := h
  obtain ⟨u, w', rfl, ⟨t, rfl⟩, ⟨t', rfl⟩⟩ := vals2 r
  refine wpAny_with_toks (Nat.le_refl _) (call_max_two (two_walk (s := s) (Q := fun u s' => s.toks ≤ s'.toks → EP X pins σ Q u s') (I.ok.hd hc) _ (cmpS_gt (strAt2 a b) fun _ _ => strAt2_is) fun h' tk k htk => ⟨_, H, I.kept k htk, ?_, q⟩))
  by_cases hj : a.cps.toList < b.cps.toList
  · rw [if_pos (show decide ((strAt2 a b 0).cps.toList < (strAt2 a b 1).cps.toList) = true from decide_eq_true hj), if_pos hj]; exact ⟨_, rfl⟩
  · rw [if_neg (show ¬ decide ((strAt2 a b 0).cps.toList < (strAt2 a b 1).cps.toList) = true by rw [decide_eq_true_iff]; exact hj), if_neg hj]; exact ⟨_, rfl⟩
theorem call_isinst : CallR X (.builtin "isinstance") (fun xs H Q => ∃ x T t b, xs = [x, .ty T] ∧ TyOf X.K H x t ∧ PySem.W.kitOne X.K t (.type T) = some b ∧ Q (.bl b) H) := by
  intro pins s σ H xs us Q I r h
  obtain ⟨x, T, t, b, rfl, ty, e, q⟩ := h
  obtain ⟨u, w', rfl, rx, ry⟩ := vals2 r
  cases (show w' = Value.type T from ry)
  exact wpAny_with_toks (Nat.le_refl _) (isinst_ok I rx ty e fun tk htk => ⟨.bl b, H, I.tok tk htk, rfl, q⟩)
theorem op_in1 : OpR X (compareOp .In) (fun x y H Q => ∃ c z, x = .str ⟨#[c]⟩ ∧ y = .str z ∧ Q (.bl (decide (c ∈ z.cps.toList))) H) := by
  intro pins s σ H x y v u Q I rx ry h
  obtain ⟨c, z, rfl, rfl, q⟩ := h
  obtain ⟨t, rfl⟩ := rx
  obtain ⟨t', rfl⟩ := ry
  exact in_str (fin_bl I q (StrLaws.found_one z c).symm)
end
mutual
inductive DV (K : PySem.W.Frag) (H : Hp) : V → PyData → Prop
  | non : DV K H .non .none
  | bl (b : Bool) : DV K H (.bl b) (.bool b)
  | int (i : Int) : DV K H (.int i) (.int i)
  | str (x : Str) : DV K H (.str x) (.str x)
  | old (x : Str) (a n : Nat) : DV K H (.old x a n) (.str x)
  | tup {p : Addr} {xs : List V} {ds : List PyData} : SqT K H p xs → DVs K H xs ds → DV K H (.ref p) (.tuple ds)
  | lst {p : Addr} {xs : List V} {ds : List PyData} : SqL K H p xs → DVs K H xs ds → DV K H (.ref p) (.list ds)
inductive DVs (K : PySem.W.Frag) (H : Hp) : List V → List PyData → Prop
  | nil : DVs K H [] []
  | cons {x : V} {d : PyData} {xs : List V} {ds : List PyData} : DV K H x d → DVs K H xs ds → DVs K H (x :: xs) (d :: ds)
end
section
variable {X : Cx} {pins : List (Addr × Obj)} {σ : St} {H : Hp} {s : Shared}
mutual
theorem dv_reads (I : Inv X pins σ H s) : ∀ {x : V} {d : PyData} {u : Value}, DV X.K H x d → RelV x u → ∃ as, Reads s.heap u d as
  | _, _, _, .non, r => by cases r; exact ⟨_, Reads.none⟩
  | _, _, _, .bl b, r => by cases r; exact ⟨_, Reads.bool b⟩
  | _, _, _, .int i, r => by obtain ⟨t, rfl⟩ := r; exact ⟨_, Reads.int i t⟩
  | _, _, _, .str x, r => by obtain ⟨t, rfl⟩ := r; exact ⟨_, Reads.str x t⟩
  | _, _, _, .old x _ _, r => by obtain ⟨t, rfl, _⟩ := r; exact ⟨_, Reads.str x t⟩
  | _, _, _, .tup hq hd, r => by
    cases r
    obtain ⟨its, rv, ht, _⟩ := I.tuple hq
    obtain ⟨as, ra⟩ := dvs_reads I hd rv
    obtain ⟨o, ho, hc, n, hdt⟩ := ht
    exact ⟨as, reads_tuple_at ho hc hdt (by simpa using ra)⟩
  | _, _, _, .lst hq hd, r => by
    cases r
    obtain ⟨its, rv, pl, _⟩ := I.list hq
    obtain ⟨as, ra⟩ := dvs_reads I hd rv
    obtain ⟨o, ho, hc, n, hdt⟩ := pl.isList
    exact ⟨_, reads_list_at ho hc hdt (by simpa using ra)⟩
theorem dvs_reads (I : Inv X pins σ H s) : ∀ {xs : List V} {ds : List PyData} {us : List Value}, DVs X.K H xs ds → Vals xs us → ∃ as, ReadsAll s.heap us ds as
  | _, _, _, .nil, .nil => ⟨_, ReadsAll.nil⟩
  | _, _, _, .cons hd hr, .cons r rr => by
    obtain ⟨as, ra⟩ := dv_reads I hd r
    obtain ⟨bs, rb⟩ := dvs_reads I hr rr
    exact ⟨_, ReadsAll.cons ra rb⟩
end
end
section
variable {X : Cx}
theorem op_eqD (hu : X.A.units + 64 < cLine) : OpR X (compareOp .Eq) (fun x y H Q => ∃ d e, DV X.K H x d ∧ DV X.K H y e ∧ SeqAt.shaped d = true ∧ SeqAt.shaped e = true ∧ Q (.bl (PyData.eqv d e)) H) := by
  intro pins s σ H x y v u Q I rx ry h
  obtain ⟨d, e, hd, he, sd, se, q⟩ := h
  obtain ⟨as, ra⟩ := dv_reads I hd rx
  obtain ⟨bs, rb⟩ := dv_reads I he ry
  exact eq_dataH ra rb sd se hu (fin_bl I q rfl)
theorem op_neD (hu : X.A.units + 64 < cLine) : OpR X (compareOp .NotEq) (fun x y H Q => ∃ d e, DV X.K H x d ∧ DV X.K H y e ∧ SeqAt.shaped d = true ∧ SeqAt.shaped e = true ∧ Q (.bl (!PyData.eqv d e)) H) := by
  intro pins s σ H x y v u Q I rx ry h
  obtain ⟨d, e, hd, he, sd, se, q⟩ := h
  obtain ⟨as, ra⟩ := dv_reads I hd rx
  obtain ⟨bs, rb⟩ := dv_reads I he ry
  exact ne_dataH ra rb sd se hu (fin_bl I q rfl)
end
structure Yields (J : It) (xs : List V) (H : Hp) : Prop where
  go : ∀ H' i, Same H H' → i < xs.length → J.go i H'
  yld : ∀ H' i x H'', Same H H' → i < xs.length → J.yld i H' x H'' → H'' = H' ∧ xs[i]? = some x
  stop : ∀ H' i, Same H H' → xs.length ≤ i → J.stop i H'
theorem yields_list {K : PySem.W.Frag} {a : Addr} {xs : List V} {H : Hp} (h : SqL K H a xs) : Yields (Itl K a) xs H :=
  ⟨fun H' i e hi => ⟨xs, xs[i], e.seq h, by simp [hi]⟩, fun H' i x H'' e _ y => ⟨y.1, y.2 xs (e.seq h)⟩, fun H' i e hi => ⟨xs, e.seq h, hi⟩⟩
theorem Same.tup {K : PySem.W.Frag} {H H' : Hp} {a : Addr} {xs : List V} (e : Same H H') (h : SqT K H a xs) : SqT K H' a xs := by
  rcases h with (h | ⟨o, h⟩) | h
  · exact .inl (.inl (e _ _ h))
  · exact .inl (.inr ⟨o, e _ _ h⟩)
  · exact .inr h
theorem yields_tup {K : PySem.W.Frag} {a : Addr} {xs : List V} {H : Hp} (h : SqT K H a xs) : Yields (Itt K a) xs H :=
  ⟨fun H' i e hi => ⟨xs, xs[i], e.tup h, by simp [hi]⟩, fun H' i x H'' e _ y => ⟨y.1, y.2 xs (e.tup h)⟩, fun H' i e hi => ⟨xs, e.tup h, hi⟩⟩
def rangeV (lo : Int) (n : Nat) : List V := (List.range n).map fun (i : Nat) => V.int (lo + (i : Int))
theorem rangeV_length (lo : Int) (n : Nat) : (rangeV lo n).length = n := by unfold rangeV; rw [List.length_map, List.length_range]
theorem yields_range {lo : Int} {n : Nat} {H : Hp} : Yields (Itr lo n) (rangeV lo n) H :=
  ⟨fun H' i _ hi => by rw [rangeV_length] at hi; exact hi, fun H' i x H'' _ hi y => by
    rw [rangeV_length] at hi
    refine ⟨y.1, ?_⟩
    unfold rangeV
    rw [List.getElem?_map, List.getElem?_range hi, y.2]
    rfl, fun H' i _ hi => by rw [rangeV_length] at hi; exact hi⟩
theorem yields_str {x : Str} {H : Hp} : Yields (Its x) (signsV x) H :=
  ⟨fun H' i _ hi => by rw [signsV_length] at hi; exact hi, fun H' i v H'' _ _ y => by
    obtain ⟨y1, c, hc, y2⟩ := y
    refine ⟨y1, ?_⟩
    unfold signsV
    rw [List.getElem?_map, y2]
    have : x.cps.toList[i]? = some c := by simpa using hc
    rw [this]
    rfl, fun H' i _ hi => by rw [signsV_length] at hi; exact hi⟩
theorem same_new {H : Hp} {p : Addr} (h : H p = none) (o : HO) : Same H (upd H p o) := ⟨fun b u q => by rw [upd_ne (ne_of_none q h)]; exact q, Nat.le_refl _⟩
theorem filter_take {α : Type} (p : α → Bool) (l : List α) (i : Nat) (v : α) (h : l[i]? = some v) : (l.take (i + 1)).filter p = if p v = true then (l.take i).filter p ++ [v] else (l.take i).filter p := by
  rw [List.take_add_one, h, List.filter_append]
  cases hp : p v <;> simp [hp]
theorem comp_read {J : It} {xs : List V} {fr : List Nat} {tt : TT} {te : TE} {σ : St} {H1 : Hp} {D : Addr} {Q : VK} (Y : Yields J xs H1) (hD : H1 D = none) (hz : xs.length ≤ sizeLine)
    (p : V → Bool) (Rel : V → V → Hp → Prop) (hRel : ∀ x v H H', Rel x v H → (∀ b ys, H b = some (.tup ys) → H' b = some (.tup ys)) → Rel x v H')
    (ht : ∀ (i : Nat) x H' (Qb : Bool → Hp → Prop), xs[i]? = some x → Same H1 H' → (∀ H'', Same H' H'' → Qb (p x) H'') → tt (some x :: fr.map fun i => (σ[i]?).join) H' Qb)
    (he : ∀ (i : Nat) x H' (Qv : VK), xs[i]? = some x → p x = true → Same H1 H' → (∀ v H'', Same H' H'' → Rel x v H'' → Qv v H'') → te (some x :: fr.map fun i => (σ[i]?).join) H' Qv)
    (hQ : ∀ H' ys, Same H1 H' → H' D = some (.lst ys) → Paired (fun x v => Rel x v H') (xs.filter p) ys → Q (.ref D) H') :
    CompW J 1 fr (gName 0) tt te σ H1 D Q := by
  refine ⟨fun i m τ H => m = xs.length - i ∧ i ≤ xs.length ∧ (∃ v, τ = v :: fr.map fun i => (σ[i]?).join) ∧ Same H1 H ∧ ∃ ys, H D = some (.lst ys) ∧ Paired (fun x v => Rel x v H) ((xs.take i).filter p) ys,
    ⟨xs.length, by simp, Nat.zero_le _, ⟨none, rfl⟩, same_new hD _, [], upd_same, by simpa using Paired.nil⟩, ?_⟩
  rintro i m τ H ⟨rfl, hi, ⟨v0, rfl⟩, sm, ys, hys, hp⟩
  by_cases hlt : i < xs.length
  · refine .inr ⟨Y.go H i sm hlt, fun τ' H' => (∃ v, τ' = v :: fr.map fun i => (σ[i]?).join) ∧ Same H1 H' ∧ ∃ ys, H' D = some (.lst ys) ∧ Paired (fun x v => Rel x v H') ((xs.take (i + 1)).filter p) ys,
      fun τ' H' n => ⟨xs.length - (i + 1), by omega, rfl, hlt, n.1, n.2.1, n.2.2⟩, fun x H' y => ?_⟩
    obtain ⟨e, hx⟩ := Y.yld H i x H' sm hlt y
    subst e
    show tt (some x :: fr.map fun i => (σ[i]?).join) H' _
    have keepP : ∀ {H'' : Hp}, Same H' H'' → Paired (fun x v => Rel x v H'') ((xs.take i).filter p) ys := fun sm' => Paired.mapP hp fun a b r => hRel a b _ _ r fun c zs q => sm' c _ q
    refine ht i x H' _ hx sm fun H3 sm3 => ?_
    cases hpx : p x with
    | false =>
      rw [if_neg Bool.false_ne_true]
      refine ⟨⟨_, rfl⟩, sm.trans sm3, ys, sm3 _ _ hys, ?_⟩
      rw [filter_take p xs i x hx, hpx, if_neg Bool.false_ne_true]
      exact keepP sm3
    | true =>
      rw [if_pos rfl]
      refine he i x H3 _ hx hpx (sm.trans sm3) fun w H4 sm4 rl => ?_
      have sm34 := sm3.trans sm4
      have hys4 : H4 D = some (.lst ys) := sm34 _ _ hys
      have hl := hp.length
      have h2 : ((xs.take i).filter p).length ≤ (xs.take i).length := List.length_filter_le _ _
      have h3 : (xs.take i).length ≤ i := by rw [List.length_take]; omega
      have tupK : ∀ b zs, H4 b = some (.tup zs) → upd H4 D (.lst (ys ++ [w])) b = some (.tup zs) := fun b zs q => by
        rw [upd_ne (ne_of q hys4 (by intro z; cases z))]
        exact q
      refine ⟨ys, hys4, by omega, ⟨_, rfl⟩, ⟨fun b o q => ?_, (sm.trans sm34).ck⟩, ys ++ [w], upd_same, ?_⟩
      · rw [upd_ne (ne_of_none q hD)]
        exact (sm.trans sm34) b o q
      · rw [filter_take p xs i x hx, hpx, if_pos rfl]
        exact Paired.snoc (Paired.mapP (keepP sm34) fun a b r => hRel a b _ _ r tupK) (hRel x w _ _ rl tupK)
  · have e : i = xs.length := by omega
    subst e
    refine .inl ⟨Y.stop H _ sm (Nat.le_refl _), hQ H ys sm hys ?_⟩
    rw [List.take_length] at hp
    exact hp
theorem paired_map {f : V → V} : ∀ {l ys : List V}, Paired (fun x v => v = f x) l ys → ys = l.map f
  | _, _, .nil => rfl
  | _, _, .cons h t => by rw [List.map_cons, h, paired_map t]
theorem comp_map {J : It} {xs : List V} {fr : List Nat} {tt : TT} {te : TE} {σ : St} {H1 : Hp} {D : Addr} {Q : VK} (Y : Yields J xs H1) (hD : H1 D = none) (hz : xs.length ≤ sizeLine)
    (p : V → Bool) (f : V → V)
    (ht : ∀ (i : Nat) x H' (Qb : Bool → Hp → Prop), xs[i]? = some x → Same H1 H' → (∀ H'', Same H' H'' → Qb (p x) H'') → tt (some x :: fr.map fun i => (σ[i]?).join) H' Qb)
    (he : ∀ (i : Nat) x H' (Qv : VK), xs[i]? = some x → p x = true → Same H1 H' → (∀ H'', Same H' H'' → Qv (f x) H'') → te (some x :: fr.map fun i => (σ[i]?).join) H' Qv)
    (hQ : ∀ H', Same H1 H' → H' D = some (.lst ((xs.filter p).map f)) → Q (.ref D) H') :
    CompW J 1 fr (gName 0) tt te σ H1 D Q :=
  comp_read Y hD hz p (fun x v _ => v = f x) (fun _ _ _ _ r _ => r) ht (fun i x H' Qv hx hp sm k => he i x H' Qv hx hp sm fun H'' sm' => k (f x) H'' sm' rfl) fun H' ys sm hd hp => hQ H' sm (by rw [hd, paired_map hp])
theorem for_str {x : Str} {g : TG} {tb : TS} {D : Ends} {σ : St} {H : Hp} (Pv : Nat → St → Hp → Prop) (h0 : Pv 0 σ H)
    (hs : ∀ i c σ H, x.cps[i]? = some c → Pv i σ H → g (.str ⟨#[c]⟩) σ H fun σ2 H2 => tb { D with nx := Pv (i + 1), ct := Pv (i + 1), bk := D.nx } σ2 H2) (hd : ∀ σ H, Pv x.length σ H → D.nx σ H) :
    ∃ W : Nat → Nat → St → Hp → Prop, (∃ m, W 0 m σ H) ∧ ∀ i m σ H, W i m σ H →
      ((Its x).stop i H ∧ D.nx σ H) ∨ ((Its x).go i H ∧ ∃ N : St → Hp → Prop, (∀ σ' H', N σ' H' → ∃ m', m' < m ∧ W (i + 1) m' σ' H') ∧ ∀ y H', (Its x).yld i H y H' → g y σ H' fun σ2 H2 => tb { D with nx := N, ct := N, bk := D.nx } σ2 H2) := by
  refine ⟨fun i m σ H => m = x.length - i ∧ i ≤ x.length ∧ Pv i σ H, ⟨x.length, by simp, Nat.zero_le _, h0⟩, ?_⟩
  rintro i m σ H ⟨rfl, hi, p⟩
  by_cases hlt : i < x.length
  · refine .inr ⟨hlt, Pv (i + 1), fun σ' H' p' => ⟨x.length - (i + 1), by omega, rfl, hlt, p'⟩, fun v H' y => ?_⟩
    obtain ⟨e, c, hc, ev⟩ := y
    subst e ev
    exact hs i c σ _ hc p
  · have e : i = x.length := by omega
    subst e
    exact .inl ⟨Nat.le_refl _, hd σ H p⟩
theorem for_enumS {x : Str} {g : TG} {tb : TS} {D : Ends} {σ : St} {H : Hp} (Pv : Nat → St → Hp → Prop) (h0 : Pv 0 σ H)
    (hs : ∀ i c p σ H, x.cps[i]? = some c → H p = none → Pv i σ H → g (.ref p) σ (upd H p (.tup [.int i, .str ⟨#[c]⟩])) fun σ2 H2 => tb { D with nx := Pv (i + 1), ct := Pv (i + 1), bk := D.nx } σ2 H2) (hd : ∀ σ H, Pv x.length σ H → D.nx σ H) :
    ∃ W : Nat → Nat → St → Hp → Prop, (∃ m, W 0 m σ H) ∧ ∀ i m σ H, W i m σ H →
      ((Ite x).stop i H ∧ D.nx σ H) ∨ ((Ite x).go i H ∧ ∃ N : St → Hp → Prop, (∀ σ' H', N σ' H' → ∃ m', m' < m ∧ W (i + 1) m' σ' H') ∧ ∀ y H', (Ite x).yld i H y H' → g y σ H' fun σ2 H2 => tb { D with nx := N, ct := N, bk := D.nx } σ2 H2) := by
  refine ⟨fun i m σ H => m = x.length - i ∧ i ≤ x.length ∧ Pv i σ H, ⟨x.length, by simp, Nat.zero_le _, h0⟩, ?_⟩
  rintro i m σ H ⟨rfl, hi, p⟩
  by_cases hlt : i < x.length
  · refine .inr ⟨hlt, Pv (i + 1), fun σ' H' p' => ⟨x.length - (i + 1), by omega, rfl, hlt, p'⟩, fun v H' y => ?_⟩
    obtain ⟨q, c, hq, hc, ev, e⟩ := y
    subst e ev
    exact hs i c q σ H hc hq p
  · have e : i = x.length := by omega
    subst e
    exact .inl ⟨Nat.le_refl _, hd σ H p⟩
end L2
namespace L2
open PySem PySem.Spec PyProof.Rows
section
variable {H0 : Hp} {σ : St} {ta tb : TE} {t : TA} {d : PyData} {ds es : List PyData}
end
section
variable {X : Cx}
end
end L2
namespace L2
open PySem PySem.Spec PyProof.Rows
theorem filter_map_take {α β : Type} (p : α → Bool) (f : α → β) (l : List α) (i : Nat) (v : α) (h : l[i]? = some v) : ((l.take (i + 1)).filter p).map f = if p v = true then ((l.take i).filter p).map f ++ [f v] else ((l.take i).filter p).map f := by
  rw [filter_take p l i v h]
  cases hp : p v
  · rw [if_neg Bool.false_ne_true, if_neg Bool.false_ne_true]
  · rw [if_pos rfl, if_pos rfl, List.map_append]
    rfl
theorem comp_core {α β : Type} {J : It} {xs : List V} {as_ : List α} {fr : List Nat} {tt : TT} {te : TE} {σ : St} {H1 : Hp} {D : Addr} {Q : VK} (hlen : xs.length = as_.length) (Y : Yields J xs H1) (hD : H1 D = none) (hz : xs.length ≤ sizeLine)
    (p : α → Bool) (f : α → β) (Rel : β → V → Hp → Prop) (hRel : ∀ x v H H', Rel x v H → (∀ b ys, H b = some (.tup ys) → H' b = some (.tup ys)) → Rel x v H')
    (ht : ∀ (i : Nat) x a H' (Qb : Bool → Hp → Prop), xs[i]? = some x → as_[i]? = some a → Same H1 H' → (∀ H'', Same H' H'' → Qb (p a) H'') → tt (some x :: fr.map fun i => (σ[i]?).join) H' Qb)
    (he : ∀ (i : Nat) x a H' (Qv : VK), xs[i]? = some x → as_[i]? = some a → p a = true → Same H1 H' → (∀ v H'', Same H' H'' → Rel (f a) v H'' → Qv v H'') → te (some x :: fr.map fun i => (σ[i]?).join) H' Qv)
    (hQ : ∀ H' ys, Same H1 H' → H' D = some (.lst ys) → Paired (fun b v => Rel b v H') ((as_.filter p).map f) ys → Q (.ref D) H') :
    CompW J 1 fr (gName 0) tt te σ H1 D Q := by
  refine ⟨fun i m τ H => m = xs.length - i ∧ i ≤ xs.length ∧ (∃ v, τ = v :: fr.map fun i => (σ[i]?).join) ∧ Same H1 H ∧ ∃ ys, H D = some (.lst ys) ∧ Paired (fun b v => Rel b v H) (((as_.take i).filter p).map f) ys,
    ⟨xs.length, by simp, Nat.zero_le _, ⟨none, rfl⟩, same_new hD _, [], upd_same, by simpa using Paired.nil⟩, ?_⟩
  rintro i m τ H ⟨rfl, hi, ⟨v0, rfl⟩, sm, ys, hys, hp⟩
  by_cases hlt : i < xs.length
  · refine .inr ⟨Y.go H i sm hlt, fun τ' H' => (∃ v, τ' = v :: fr.map fun i => (σ[i]?).join) ∧ Same H1 H' ∧ ∃ ys, H' D = some (.lst ys) ∧ Paired (fun b v => Rel b v H') (((as_.take (i + 1)).filter p).map f) ys,
      fun τ' H' n => ⟨xs.length - (i + 1), by omega, rfl, hlt, n.1, n.2.1, n.2.2⟩, fun x H' y => ?_⟩
    obtain ⟨e, hx⟩ := Y.yld H i x H' sm hlt y
    subst e
    have ha : as_[i]? = some as_[i] := List.getElem?_eq_getElem (by omega)
    generalize as_[i] = a at ha
    show tt (some x :: fr.map fun i => (σ[i]?).join) H' _
    have keepP : ∀ {H'' : Hp}, Same H' H'' → Paired (fun b v => Rel b v H'') (((as_.take i).filter p).map f) ys := fun sm' => Paired.mapP hp fun a b r => hRel a b _ _ r fun c zs q => sm' c _ q
    refine ht i x a H' _ hx ha sm fun H3 sm3 => ?_
    cases hpx : p a with
    | false =>
      rw [if_neg Bool.false_ne_true]
      refine ⟨⟨_, rfl⟩, sm.trans sm3, ys, sm3 _ _ hys, ?_⟩
      rw [filter_map_take p f as_ i a ha, hpx, if_neg Bool.false_ne_true]
      exact keepP sm3
    | true =>
      rw [if_pos rfl]
      refine he i x a H3 _ hx ha hpx (sm.trans sm3) fun w H4 sm4 rl => ?_
      have sm34 := sm3.trans sm4
      have hys4 : H4 D = some (.lst ys) := sm34 _ _ hys
      have hl := hp.length
      rw [List.length_map] at hl
      have h2 : ((as_.take i).filter p).length ≤ (as_.take i).length := List.length_filter_le _ _
      have h3 : (as_.take i).length ≤ i := by rw [List.length_take]; omega
      have tupK : ∀ b zs, H4 b = some (.tup zs) → upd H4 D (.lst (ys ++ [w])) b = some (.tup zs) := fun b zs q => by
        rw [upd_ne (ne_of q hys4 (by intro z; cases z))]
        exact q
      refine ⟨ys, hys4, by omega, ⟨_, rfl⟩, ⟨fun b o q => ?_, (sm.trans sm34).ck⟩, ys ++ [w], upd_same, ?_⟩
      · rw [upd_ne (ne_of_none q hD)]
        exact (sm.trans sm34) b o q
      · rw [filter_map_take p f as_ i a ha, hpx, if_pos rfl]
        exact Paired.snoc (Paired.mapP (keepP sm34) fun a b r => hRel a b _ _ r tupK) (hRel _ w _ _ rl tupK)
  · have e : i = xs.length := by omega
    subst e
    refine .inl ⟨Y.stop H _ sm (Nat.le_refl _), hQ H ys sm hys ?_⟩
    rw [hlen, List.take_length] at hp
    exact hp
theorem paired_eq {β : Type} {f : β → V} : ∀ {l : List β} {ys : List V}, Paired (fun x v => v = f x) l ys → ys = l.map f
  | _, _, .nil => rfl
  | _, _, .cons h t => by rw [List.map_cons, h, paired_eq t]
theorem comp_val {α : Type} {J : It} {xs : List V} {as_ : List α} {fr : List Nat} {tt : TT} {te : TE} {σ : St} {H1 : Hp} {D : Addr} {Q : VK} (hlen : xs.length = as_.length) (Y : Yields J xs H1) (hD : H1 D = none) (hz : xs.length ≤ sizeLine)
    (p : α → Bool) (f : α → V)
    (ht : ∀ (i : Nat) x a H' (Qb : Bool → Hp → Prop), xs[i]? = some x → as_[i]? = some a → Same H1 H' → (∀ H'', Same H' H'' → Qb (p a) H'') → tt (some x :: fr.map fun i => (σ[i]?).join) H' Qb)
    (he : ∀ (i : Nat) x a H' (Qv : VK), xs[i]? = some x → as_[i]? = some a → p a = true → Same H1 H' → (∀ H'', Same H' H'' → Qv (f a) H'') → te (some x :: fr.map fun i => (σ[i]?).join) H' Qv)
    (hQ : ∀ H', Same H1 H' → H' D = some (.lst ((as_.filter p).map f)) → Q (.ref D) H') :
    CompW J 1 fr (gName 0) tt te σ H1 D Q :=
  comp_core (β := V) hlen Y hD hz p f (fun b v _ => v = b) (fun _ _ _ _ r _ => r) ht (fun i x a H' Qv hx ha hp sm k => he i x a H' Qv hx ha hp sm fun H'' sm' => k (f a) H'' sm' rfl) fun H' ys sm hd hp => hQ H' sm (by
    have e := paired_eq (f := fun b => b) hp
    rw [List.map_id'] at e
    rw [hd, e])
end L2
namespace L2
open PySem PySem.Spec PyProof.Rows
section
variable {H0 : Hp} {σ : St} {ta tb : TE} {ds es : List PyData}
end
end L2
namespace L2
open PySem PySem.Spec PyProof.Rows
def isStar : Expr → Bool
  | .Starred _ _ => true
  | _ => false
theorem star_no {e : Expr} (h : isStar e = false) (es : List Expr) (env : Env) : starEach (e :: es) env = (false, eval e env) :: starEach es env := by
  cases e <;> first | rfl | cases h
end L2
namespace L2
open PySem PySem.Spec PyProof.Rows
end L2
namespace L2
open PySem PySem.Spec PyProof.Rows
mutual
theorem dv_same {K : PySem.W.Frag} {H H' : Hp} (e : Same H H') : ∀ {x : V} {d : PyData}, DV K H x d → DV K H' x d
  | _, _, .non => .non
  | _, _, .bl b => .bl b
  | _, _, .int i => .int i
  | _, _, .str x => .str x
  | _, _, .old x a n => .old x a n
  | _, _, .tup hq hd => .tup (e.tup hq) (dvs_same e hd)
  | _, _, .lst hq hd => .lst (e.seq hq) (dvs_same e hd)
theorem dvs_same {K : PySem.W.Frag} {H H' : Hp} (e : Same H H') : ∀ {xs : List V} {ds : List PyData}, DVs K H xs ds → DVs K H' xs ds
  | _, _, .nil => .nil
  | _, _, .cons hd hr => .cons (dv_same e hd) (dvs_same e hr)
end
end L2
namespace L2
open PySem PySem.Spec PyProof.Rows
structure QE (X : Cx) (e : Expr) (t : TE) : Prop where
  h : PE X e t
structure QT (X : Cx) (e : Expr) (t : TT) : Prop where
  h : PT X e t
structure QW (X : Cx) (e : Expr) (t : TT) : Prop where
  h : PW X e t
structure QA (X : Cx) (es : List Expr) (t : TA) : Prop where
  h : PA X es t
structure QS (X : Cx) (st : Stmt) (t : TS) : Prop where
  h : PS X st t
structure QSs (X : Cx) (st : List Stmt) (t : TS) : Prop where
  h : PSs X st t
structure QG (X : Cx) (e : Expr) (t : TG) : Prop where
  h : PG X e t
structure QGs (X : Cx) (es : List Expr) (t : TGs) : Prop where
  h : PGs X es t
structure QI (X : Cx) (tg iter : Expr) (wi : TI) : Prop where
  h : PI X tg iter wi
structure QO (X : Cx) (e : Option Expr) (t : TO) : Prop where
  h : PO X e t
structure QTs (X : Cx) (ifs : List Expr) (t : TT) : Prop where
  h : PTs X ifs t
def rLenSeq (K : PySem.W.Frag) : List V → Hp → VK → Prop := fun xs H Q => ∃ p ys, xs = [.ref p] ∧ (SqL K H p ys ∨ SqT K H p ys) ∧ Q (.int ys.length) H
def rListOf (K : PySem.W.Frag) : List V → Hp → VK → Prop := fun xs H Q => ∃ p ys, xs = [.ref p] ∧ (SqL K H p ys ∨ SqT K H p ys) ∧ ∀ l, H l = none → Q (.ref l) (upd H l (.lst ys))
def rTupOf (K : PySem.W.Frag) : List V → Hp → VK → Prop := fun xs H Q => ∃ p ys, xs = [.ref p] ∧ ((SqL K H p ys ∧ ∀ l, H l = none → Q (.ref l) (upd H l (.tup ys))) ∨ (SqT K H p ys ∧ Q (.ref p) H))
def rSortedS (K : PySem.W.Frag) : List V → Hp → VK → Prop := fun xs H Q => ∃ p ss, xs = [.ref p] ∧ SqL K H p (ss.map V.str) ∧ ss.length < 64 ∧ ∀ l ss', H l = none → ss'.Perm ss → sortedS ss' = true → Q (.ref l) (upd H l (.lst (ss'.map V.str)))
def rIsInst (K : PySem.W.Frag) : List V → Hp → VK → Prop := fun xs H Q => ∃ x T t b, xs = [x, .ty T] ∧ TyOf K H x t ∧ PySem.W.kitOne K t (.type T) = some b ∧ Q (.bl b) H
def rEqD (K : PySem.W.Frag) : R2 := fun x y H Q => ∃ d e, DV K H x d ∧ DV K H y e ∧ SeqAt.shaped d = true ∧ SeqAt.shaped e = true ∧ Q (.bl (PyData.eqv d e)) H
def rNeD (K : PySem.W.Frag) : R2 := fun x y H Q => ∃ d e, DV K H x d ∧ DV K H y e ∧ SeqAt.shaped d = true ∧ SeqAt.shaped e = true ∧ Q (.bl (!PyData.eqv d e)) H
section
variable {X : Cx}
theorem c_len_seq : CallR X (.builtin "len") (rLenSeq X.K) := call_len_seq
theorem c_list_of : CallR X (.type "list") (rListOf X.K) := call_list_of
theorem c_tuple_of : CallR X (.type "tuple") (rTupOf X.K) := call_tuple_of
theorem c_sorted : CallR X (.builtin "sorted") (rSortedS X.K) := call_sortedS
theorem c_isinst : CallR X (.builtin "isinstance") (rIsInst X.K) := call_isinst
theorem o_eqD (hu : X.A.units + 64 < cLine) : OpR X (compareOp .Eq) (rEqD X.K) := op_eqD hu
theorem o_neD (hu : X.A.units + 64 < cLine) : OpR X (compareOp .NotEq) (rNeD X.K) := op_neD hu
end
theorem star_any (pos : Pos) (env : Env) : ∀ {es : List Expr}, es.all (fun e => !isStar e) = true → (backTo pos (starEach es env)).any (·.1) = false
  | [], _ => rfl
  | e :: es, h => by
    rw [List.all_cons, Bool.and_eq_true] at h
    rw [star_no (by simpa using h.1)]
    show (false || (backTo pos (starEach es env)).any (·.1)) = false
    rw [star_any pos env h.2]
    rfl
theorem star_all (pos : Pos) (env : Env) : ∀ {es : List Expr}, es.all (fun e => !isStar e) = true → (backTo pos (starEach es env)).all (fun x => !x.1) = true
  | [], _ => rfl
  | e :: es, h => by
    rw [List.all_cons, Bool.and_eq_true] at h
    rw [star_no (by simpa using h.1)]
    show (true && (backTo pos (starEach es env)).all (fun x => !x.1)) = true
    rw [star_all pos env h.2]
    rfl
section
variable {X : Cx} {a b c e o : Expr} {es : List Expr} {ta tb te to : TE} {t : TA} {tA tB' : TT} {pos p apos cpos p2 : Pos} {rest : List Expr} {K : PySem.W.Frag}
theorem qv (i : Nat) {x : Str} {pos : Pos} (hN : X.N[i]? = some x := by rfl) (hv : Vis X.env.scope x := by first | exact Or.inl rfl | exact Or.inr (Or.inl rfl) | exact Or.inr (Or.inr rfl)) (hd : (x == ("__debug__" : Str)) = false := by decide)
    (hcd : (x == ("__classdict__" : Str)) = false := by decide) : QE X (.Name x pos) (tVar i) := ⟨pe_var hN hv hd hcd⟩
theorem qe_int {i j pos} : QE X (.Constant (.int i) j pos) (tC (.int i)) := ⟨pe_int⟩
theorem qe_bl {b j pos} : QE X (.Constant (.bool b) j pos) (tC (.bl b)) := ⟨pe_bl⟩
theorem qe_str {x j pos} : QE X (.Constant (.str x) j pos) (tC (.str x)) := ⟨pe_str⟩
theorem qe_bltn {x : Str} {v : V} {u : Value} {pos : Pos} (hg : Gl X x) (hm : X.mg x = none) (hv : bootBuiltins x = some u) (r : RelV v u) (hn : x ≠ "__name__" := by decide) (hd : (x == ("__debug__" : Str)) = false := by decide) : QE X (.Name x pos) (tC v) := ⟨pe_bltn hg hm hv r hn hd⟩
theorem qe_op {op : Operator} {r : R2} (ho : OpR X (binaryOp op) r) (ha : QE X a ta) (hb : QE X b tb) : QE X (.BinOp a op b pos) (tOp r ta tb) := ⟨pe_op ho ha.h hb.h⟩
theorem qe_cmp {op : CmpOp} {r : R2} (ho : OpR X (compareOp op) r) (ha : QE X a ta) (hb : QE X b tb) (hm : behindInMarks op b = false) : QE X (.Compare a [op] [b] pos) (tOp r ta tb) := ⟨pe_cmpR ho ha.h hb.h hm⟩
theorem qt_cmp {op : CmpOp} {r : R2} (ho : OpR X (compareOp op) r) (ha : QE X a ta) (hb : QE X b tb) (hm : behindInMarks op b = false) : QT X (.Compare a [op] [b] pos) (tTest (tOp r ta tb)) := ⟨pt_cmpR ho ha.h hb.h hm⟩
theorem qt_val {e : Expr} {t : TE} (h : QE X e t) (he : ∀ whole, isTrue e X.env whole = (do let v ← whole; standAt e.pos; holding [v] (truthy v)) := by intro _; rfl) : QT X e (tB t) := ⟨pt_val h.h he⟩
theorem qw_pt {e : Expr} {t : TT} (h : QW X e t) : QT X e t := ⟨h.h.pt⟩
theorem qw_and1 (ha : QT X a tA) : QW X (.BoolOp .And [a] pos) tA := ⟨pw_and1 ha.h⟩
theorem qw_or1 (ha : QT X a tA) : QW X (.BoolOp .Or [a] pos) tA := ⟨pw_or1 ha.h⟩
theorem qw_and (ha : QT X a tA) (hb : QW X (.BoolOp .And (b :: rest) pos) tB') : QW X (.BoolOp .And (a :: b :: rest) pos) (tAnd tA tB') := ⟨pw_and ha.h hb.h⟩
theorem qw_or (ha : QT X a tA) (hb : QW X (.BoolOp .Or (b :: rest) pos) tB') : QW X (.BoolOp .Or (a :: b :: rest) pos) (tOr tA tB') := ⟨pw_or ha.h hb.h⟩
theorem qt_not (ha : QT X a tA) : QT X (.UnaryOp .Not a pos) (tNot tA) := ⟨pt_not ha.h⟩
theorem qe_one {op} {t : TE} (h : QE X a t) : QE X (.BoolOp op [a] pos) t := ⟨pe_one h.h⟩
theorem qe_and (ha : QE X a ta) (hb : QE X (.BoolOp .And (b :: rest) pos) tb) : QE X (.BoolOp .And (a :: b :: rest) pos) (tAndV ta tb) := ⟨pe_and ha.h hb.h⟩
theorem qe_or (ha : QE X a ta) (hb : QE X (.BoolOp .Or (b :: rest) pos) tb) : QE X (.BoolOp .Or (a :: b :: rest) pos) (tOrV ta tb) := ⟨pe_or ha.h hb.h⟩
theorem qe_not (ha : QE X a ta) : QE X (.UnaryOp .Not a pos) (tNotV ta) := ⟨pe_not ha.h⟩
theorem qa_nil : QA X [] tNil := ⟨pa_nil⟩
theorem qa_cons (ha : QE X e te) (hr : QA X es t) (h : isStar e = false := by rfl) : QA X (e :: es) (tCons te t) := ⟨pa_cons ha.h hr.h (star_no h es X.env)⟩
theorem qe_tup {x1} (h : QA X es t) : QE X (.Tuple es x1 pos) (tTup t) := ⟨pe_tup h.h⟩
theorem qe_lst (h : QA X es t) : QE X (.List es pos) (tLst t) := ⟨pe_lst h.h⟩
theorem qe_ix {r : R2} (hr : IxR X r) (ha : QE X a ta) (hb : QE X b tb) (hs : PlainIx b := by intro _ _; rfl) : QE X (.Subscript a b pos) (tOp r ta tb) := ⟨pe_ix hr ha.h hb.h hs⟩
theorem qo_none : QO X none tNoPart := ⟨po_none⟩
theorem qo_some (h : QE X e te) : QO X (some e) (tPart te) := ⟨po_some h.h⟩
theorem qe_slice {lo hi : Option Expr} {tl th : TO} {r : V → Option Int → Option Int → Hp → VK → Prop} (hr : SlR X r) (he : QE X e te) (hl : QO X lo tl) (hu : QO X hi th) : QE X (.Subscript e (.Slice lo hi none p2) pos) (tSl r te tl th) := ⟨pe_slice hr he.h hl.h hu.h⟩
end
section
variable {X : Cx} {CX : CXT} {k : Nat} {f : Addr} {fd : FuncData} {ps : List Str} {sp : Sp} {dvs : List V} {ds : List Value} {E : XK} {x name : Str} {p pos apos cpos : Pos} {e o : Expr} {es : List Expr} {t : TA} {to : TE} {id T : String}
theorem qe_call (F : FnOk X.prog X.w X.K X.mg X.base CX k f fd ps sp) (hr : Room k X.A) (hg : Gl X x) (hm : X.mg x = some (.ref f)) (hk : PySem.W.keepIn X.K (.ref f) = true) (hb : Binds X.K fd ps ds) (hd : Vals dvs ds) (hx : Passes CX X E)
    (ha : QA X (e :: es) t) (hdb : (x == ("__debug__" : Str)) = false := by decide) (he : isStar e = false := by rfl) (hpl : es.all (fun e => !isStar e) = true := by rfl) :
    QE X (.Call (.Name x p) (e :: es) [] pos) (tCall sp dvs E t) := ⟨pe_call F hr hg hm hk hb hd hx ha.h hdb (star_no he es X.env) (star_any pos X.env hpl)⟩
theorem qe_callB {r : List V → Hp → VK → Prop} (hc : CallR X (.builtin id) r) (hg : Gl X x) (hm : X.mg x = none) (hv : bootBuiltins x = some (.builtin id)) (ha : QA X (e :: es) t) (hn : x ≠ "__name__" := by decide) (hdb : (x == ("__debug__" : Str)) = false := by decide)
    (he : isStar e = false := by rfl) (hpl : es.all (fun e => !isStar e) = true := by rfl) : QE X (.Call (.Name x p) (e :: es) [] pos) (tCB r t) := ⟨pe_callB hc hg hm hv ha.h hn hdb (star_no he es X.env) (star_any pos X.env hpl)⟩
theorem qe_callTy {r : List V → Hp → VK → Prop} (hc : CallR X (.type T) r) (hg : Gl X x) (hm : X.mg x = none) (hv : bootBuiltins x = some (.type T)) (ha : QA X (e :: es) t) (hn : x ≠ "__name__" := by decide) (hdb : (x == ("__debug__" : Str)) = false := by decide)
    (he : isStar e = false := by rfl) (hpl : es.all (fun e => !isStar e) = true := by rfl) : QE X (.Call (.Name x p) (e :: es) [] pos) (tCB r t) := ⟨pe_callTy hc hg hm hv ha.h hn hdb (star_no he es X.env) (star_any pos X.env hpl)⟩
theorem qe_bm (K : PySem.W.Frag) {r : V → List V → Hp → VK → Prop} (pa : PlainAttrs T) (slot : Slot T name id) (hty : typeOf (.builtin id) = pure (.type "method_descriptor")) (hm : MtR X id r) (ho : QE X o to) (ha : QA X (e :: es) t)
    (hK : X.K = K := by rfl) (hbase : attributeBase o name X.env (eval o X.env) = eval o X.env := by rfl)
    (hne : (e :: es).all (fun e => !isStar e) = true := by rfl) (hlen : decide ((e :: es).length + ([] : List Keyword).length + (if ([] : List Keyword).isEmpty then 0 else 1) < 30) = true := by rfl)
    (hline : (apos.endLine == cpos.line) = true := by rfl) (he : isStar e = false := by rfl) (hpl : es.all (fun e => !isStar e) = true := by rfl) :
    QE X (.Call (.Attribute o name apos) (e :: es) [] cpos) (tBM K T r to t) := by
  subst hK
  refine ⟨pe_bm pa slot hty hm ho.h ha.h hbase ?_ hline (star_no he es X.env) (star_any cpos X.env hpl)⟩
  rw [star_all cpos X.env hne, hlen]
  rfl
end
section
variable {X : Cx} {st : Stmt} {rest : List Stmt} {t u : TS} {e tg : Expr} {te : TE} {pos : Pos}
theorem qg_name {i : Nat} {x : Str} (hN : X.N.Nodup) (hi : X.N[i]? = some x) (hx : Loc X.env.scope x) (hf : X.fn x = true ∨ X.env.scope.names.lookup x = some .local := by first | exact .inl rfl | exact .inr rfl | assumption) : QG X (.Name x pos) (gName i) := ⟨pg_name hN hi hx hf⟩
theorem qgs_nil : QGs X [] gNil := ⟨pgs_nil⟩
theorem qgs_cons {e : Expr} {es : List Expr} {t : TG} {u : TGs} (h1 : QG X e t) (h2 : QGs X es u)
    (hs : (assignEach (e :: es) X.env).map (·.2) = assign e X.env :: (assignEach es X.env).map (·.2) := by rfl) : QGs X (e :: es) (gCons t u) := ⟨pgs_cons h1.h h2.h hs⟩
theorem qg_tup (K : PySem.W.Frag) {es : List Expr} {k : Nat} {t : TGs} {n : Nat} (hc : X.calm = true) (h : QGs X es t) (hK : X.K = K := by rfl)
    (hn : (assignEach es X.env).length = n := by rfl) (hst : (assignEach es X.env).findIdx? (·.1) = none := by rfl) : QG X (.Tuple es k pos) (gTup K n t) := by
  subst hK
  exact ⟨pg_tup hc h.h hn hst⟩
theorem qi_list (K : PySem.W.Frag) {l : Expr} {tl : TE} (hl : QE X l tl) (hK : X.K = K := by rfl) : QI X tg l (iList K tl) := by
  subst hK
  exact ⟨pi_list hl.h⟩
theorem qi_tup (K : PySem.W.Frag) {l : Expr} {tl : TE} (hl : QE X l tl) (hK : X.K = K := by rfl) : QI X tg l (iTup K tl) := by
  subst hK
  exact ⟨pi_tup hl.h⟩
theorem qi_str {e : Expr} {te : TE} (he : QE X e te) : QI X tg e (iStr te) := ⟨pi_str he.h⟩
theorem qi_range1 {a : Expr} {ta : TA} {p pos : Pos} (hg : Gl X "range") (hm : X.mg "range" = none) (ha : QA X [a] ta) (hs : isStar a = false := by rfl) : QI X tg (.Call (.Name "range" p) [a] [] pos) (iRng1 ta) := ⟨pi_range1 hg hm ha.h (star_no hs [] X.env)⟩
theorem qi_enumS {es : List Expr} {k : Nat} {tp : Pos} {a : Expr} {ta : TA} {p pos : Pos} (hg : Gl X "enumerate") (hm : X.mg "enumerate" = none) (ha : QA X [a] ta) (hs : isStar a = false := by rfl) :
    QI X (.Tuple es k tp) (.Call (.Name "enumerate" p) [a] [] pos) (iEnumS ta) := ⟨pi_enumS hg hm ha.h (star_no hs [] X.env)⟩
theorem qss_nil : QSs X [] tNext := ⟨pss_nil⟩
theorem qss_cons (h1 : QS X st t) (h2 : QSs X rest u) : QSs X (st :: rest) (tSeq t u) := ⟨pss_cons h1.h h2.h⟩
theorem qss_one (h1 : QS X st t) : QSs X [st] t := ⟨pss_one h1.h⟩
theorem qs_expr (he : QE X e te) (hs : swapsWith e none pos.line X.env = pure false := by rfl) : QS X (.Expr e pos) (tDrop te) := ⟨ps_expr he.h hs⟩
theorem qs_ret (he : QE X e te) : QS X (.Return (some e) pos) (tRet te) := ⟨ps_ret he.h⟩
theorem qs_if {c : Expr} {a b : List Stmt} {tc : TT} (hc : QT X c tc) (ha : QSs X a t) (hb : QSs X b u) : QS X (.If c a b pos) (tIfS tc t u) := ⟨ps_if hc.h ha.h hb.h⟩
theorem qs_set {i : Nat} {x : Str} {e : Expr} {te : TE} {pos' : Pos} (hN : X.N.Nodup) (hi : X.N[i]? = some x) (hx : Loc X.env.scope x) (he : QE X e te) (hs : swapsWith e (some (.Name x pos')) pos.line X.env = pure false := by rfl) (hf : X.fn x = true ∨ X.env.scope.names.lookup x = some .local := by first | exact .inl rfl | exact .inr rfl | assumption) :
    QS X (.Assign [.Name x pos'] e pos) (tAsg te (gName i)) := ⟨ps_set hN hi hx he.h hs hf⟩
theorem qs_aug {i : Nat} {x : Str} {e : Expr} {te : TE} {op : Operator} {ti : TIp} {pos' : Pos} (hN : X.N.Nodup) (hi : X.N[i]? = some x) (hx : Loc X.env.scope x) (he : QE X e te) (ho : PIp X op ti) (hf : X.fn x = true ∨ X.env.scope.names.lookup x = some .local := by first | exact .inl rfl | exact .inr rfl | assumption) :
    QS X (.AugAssign (.Name x pos') op e pos) (tAug i te ti) := ⟨ps_aug hN hi hx he.h ho hf⟩
theorem qs_for {iter : Expr} {body : List Stmt} {wi : TI} {g : TG} {tb : TS} {pos : Pos} (hp : PassesOwn (model X.prog X.w) X.A X.env X.xe) (hc : X.calm = true) (hi : QI X tg iter wi) (hg : QG X tg g) (hb : QSs X body tb)
    (hs : ∀ x, foldedSetIterable iter X.env x = pure x := by intro _; rfl) : QS X (.For tg iter body [] pos) (tFor wi g tb) := ⟨ps_for hp hc hi.h hg.h hb.h hs⟩
theorem qs_while {c : Expr} {body : List Stmt} {tc : TT} {tb : TS} (hp : PassesOwn (model X.prog X.w) X.A X.env X.xe) (hc : QT X c tc) (hb : QSs X body tb) : QS X (.While c body [] pos) (tWhile tc tb) := ⟨ps_while hp hc.h hb.h⟩
end
theorem qts_nil {X : Cx} : QTs X [] tYes := ⟨pts_nil⟩
theorem qts_one {X : Cx} {c : Expr} {t : TT} (h : QT X c t) : QTs X [c] t := ⟨pts_one h.h⟩
theorem qe_comp {X : Cx} {elt tgt iter : Expr} {ifs : List Expr} {scope : Scope} {pos : Pos} {N : List Str} {k : Nat} {fr : List Nat} {wi : TI} {g : TG} {tt : TT} {te : TE}
    (B : blkB X.N X.env.scope scope N k fr = true) (hc : X.calm = true) (hi : QI X tgt iter wi)
    (hg : ∀ cl C fp s H, QG (X.blk N scope cl C fp s H) tgt g) (ht : ∀ cl C fp s H, QTs (X.blk N scope cl C fp s H) ifs tt) (he : ∀ cl C fp s H, QE (X.blk N scope cl C fp s H) elt te)
    (hs : ∀ x, foldedSetIterable iter X.env x = pure x := by intro _; rfl) :
    QE X (.ListComp elt [⟨tgt, iter, ifs, 0⟩] scope pos) (tComp wi k fr g tt te) := ⟨pe_comp B hc hi.h (fun a b c d e => (hg a b c d e).h) (fun a b c d e => (ht a b c d e).h) (fun a b c d e => (he a b c d e).h) hs⟩
def tSetComp (i : Nat) (wi : TI) (k : Nat) (fr : List Nat) (g : TG) (tt : TT) (te : TE) : TS := fun D σ H => tComp wi k fr g tt te σ H fun v H' => D.nx (σ.set i (some v)) H'
theorem qs_setComp {X : Cx} {i : Nat} {y : Str} {elt tgt iter : Expr} {ifs : List Expr} {scope : Scope} {pos py pos' : Pos} {N : List Str} {k : Nat} {fr : List Nat} {wi : TI} {g : TG} {tt : TT} {te : TE}
    (hN : X.N.Nodup) (hiy : X.N[i]? = some y) (hy : Loc X.env.scope y)
    (B : blkB X.N X.env.scope scope N k fr = true) (hc : X.calm = true) (hi : QI X tgt iter wi)
    (hg : ∀ cl C fp s H, QG (X.blk N scope cl C fp s H) tgt g) (ht : ∀ cl C fp s H, QTs (X.blk N scope cl C fp s H) ifs tt) (he : ∀ cl C fp s H, QE (X.blk N scope cl C fp s H) elt te)
    (hsw : swapsWith (.ListComp elt [⟨tgt, iter, ifs, 0⟩] scope pos) (some (.Name y py)) pos'.line X.env = pure true)
    (hs : ∀ x, foldedSetIterable iter X.env x = pure x := by intro _; rfl)
    (hf : X.fn y = true ∨ X.env.scope.names.lookup y = some .local := by first | exact .inl rfl | exact .inr rfl | assumption) :
    QS X (.Assign [.Name y py] (.ListComp elt [⟨tgt, iter, ifs, 0⟩] scope pos) pos') (tSetComp i wi k fr g tt te) :=
  ⟨ps_setComp hN hiy hy B hc hi.h (fun a b c d e => (hg a b c d e).h) (fun a b c d e => (ht a b c d e).h) (fun a b c d e => (he a b c d e).h) hsw hs hf⟩
section
variable {P : Program} {w : World} {K : PySem.W.Frag} {mg : Str → Option Value} {base : Heap}
theorem Fun.okQ {x qual : Str} {st : Stmt} {f : Addr} {fd : FuncData} {N ps : List Str} {k : Nat} {sp : Sp} (F : Fun K x qual st f fd) (S : FnScope N ps (defScope st)) (len : ∀ vs H Q E, sp vs H Q E → vs.length = ps.length)
    (hbody : ∀ (cdv : Value) (A : Around) (outer : List Env) (s : Shared) (H : Hp) (vs : List V) (Q : VK) (E : XK), Room k (A.deeper (envOfC qual (defScope st) s.heap.objs.size f cdv)) → sp vs H Q E →
      ∃ t, QSs (cxOf CX0 P w K mg base N qual (defScope st) f cdv A outer s H E).nox (defBody st) t ∧ t { nx := fun _ H' => Q .non H', rt := Q } (start N vs) H) : FnOk P w K mg base CX0 (k + 1) f fd ps sp :=
  F.ok S len fun cdv A outer s H vs Q E hr hsp => let ⟨t, h, q⟩ := hbody cdv A outer s H vs Q E hr hsp; ⟨t, h.h, q⟩
end
end L2
namespace L2
open PySem PySem.Spec PyProof.Rows
end L2
namespace L2
open PySem PySem.Spec PyProof.Rows
section
variable {prog : Program} {w : World} {A : Around} {E : Value → Shared → Prop} {s : Shared}
end
section
variable {X : Cx}
theorem occ_keep (x y : Str) (hi : Nat) : ∀ (l : List Nat) (st : Array Nat × Nat), 1 ≤ st.fst.size → (forIn l st (StrLaws.occBody x y hi 1)).run = st
  | [], st, _ => rfl
  | a :: l, st, h => by
    rw [List.forIn_cons]
    unfold StrLaws.occBody
    rw [if_neg (fun z => absurd z.1.1.1 (by omega))]
    exact occ_keep x y hi l st h
theorem occ_skip (x y : Str) (hi : Nat) (m : List Nat) : ∀ (l : List Nat) (free : Nat), (∀ i ∈ l, ¬ (i + y.length ≤ hi ∧ Builtin.Str.subAt x y i = true)) → (forIn (l ++ m) ((#[] : Array Nat), free) (StrLaws.occBody x y hi 1)).run = (forIn m ((#[] : Array Nat), free) (StrLaws.occBody x y hi 1)).run
  | [], _, _ => rfl
  | a :: l, free, h => by
    rw [List.cons_append, List.forIn_cons]
    unfold StrLaws.occBody
    rw [if_neg (fun z => h a List.mem_cons_self ⟨z.1.2, z.2⟩)]
    exact occ_skip x y hi m l free fun i hi' => h i (List.mem_cons_of_mem _ hi')
theorem occ_one {p q : List Nat} {c : Nat} (hp : c ∉ p) : Builtin.Str.occurrences (⟨(p ++ c :: q).toArray⟩ : Str) ⟨#[c]⟩ 0 (⟨(p ++ c :: q).toArray⟩ : Str).length 1 = [p.length] := by
  generalize hx : (⟨(p ++ c :: q).toArray⟩ : Str) = x
  have hxl : x.cps.toList = p ++ c :: q := by rw [← hx]
  have hlen : x.length = p.length + (q.length + 1) := by rw [← hx]; simp [Str.length]
  rw [StrLaws.occ_eq]
  have er : List.range' 0 (x.length + 1 - 0) = List.range' 0 p.length ++ (p.length :: List.range' (p.length + 1) (q.length + 1)) := by
    have : x.length + 1 - 0 = p.length + (q.length + 2) := by omega
    rw [this, ← List.range'_append_1, Nat.zero_add]
    rfl
  have key : x.cps.toList[p.length]? = some c := by rw [hxl]; simp
  have hk := (StrLaws.subAt_one x c p.length).mpr key
  rw [er, occ_skip x ⟨#[c]⟩ x.length (p.length :: List.range' (p.length + 1) (q.length + 1)) (List.range' 0 p.length) 0 fun i hi hc => by
    have := (StrLaws.subAt_one x c i).mp hc
    have hi' : i < p.length := by simpa using hi
    rw [hxl, List.getElem?_append_left hi'] at this
    exact hp (List.mem_of_getElem? this)]
  rw [List.forIn_cons]
  have eb : StrLaws.occBody x ⟨#[c]⟩ x.length 1 p.length ((#[] : Array Nat), 0) = pure (ForInStep.yield (#[p.length], p.length + (⟨#[c]⟩ : Str).length)) := by
    unfold StrLaws.occBody
    rw [if_pos ⟨⟨⟨by simp, Nat.zero_le _⟩, hk.1⟩, hk.2⟩]
    rfl
  rw [eb]
  have e2 := occ_keep x ⟨#[c]⟩ x.length (List.range' (p.length + 1) (q.length + 1)) (#[p.length], p.length + (⟨#[c]⟩ : Str).length) (by simp)
  show (forIn (List.range' (p.length + 1) (q.length + 1)) (#[p.length], p.length + (⟨#[c]⟩ : Str).length) (StrLaws.occBody x ⟨#[c]⟩ x.length 1)).run.fst.toList = _
  rw [e2]
end
end L2
namespace L2
open PySem PySem.Spec PyProof.Rows
end L2
namespace L2
open PySem PySem.Spec PyProof.Rows
section
variable {prog : Program} {w : World} {A : Around} {E : Value → Shared → Prop} {s : Shared}
end
end L2
namespace L2
open PySem PySem.Spec PyProof.Rows
section
variable {X : Cx}
end
end L2
namespace L2
open PySem PySem.Spec PyProof.Rows
theorem strsAre_len : ∀ {us : List Value} {ss : List Str}, StrsAre us ss → us.length = ss.length
  | _, _, .nil => rfl
  | _, _, .cons _ _ r => by rw [List.length_cons, List.length_cons, strsAre_len r]
theorem strsAre_perm {us vs : List Value} (p : us.Perm vs) : ∀ {ss : List Str}, StrsAre us ss → ∃ ss', StrsAre vs ss' ∧ ss'.Perm ss := by
  induction p with
  | nil => intro ss h; exact ⟨ss, h, .refl _⟩
  | cons v _ ih =>
    intro ss h
    cases h with
    | cons y t r =>
      obtain ⟨ss', a, b⟩ := ih r
      exact ⟨y :: ss', .cons y t a, b.cons y⟩
  | swap v u l =>
    intro ss h
    cases h with
    | cons y t r =>
      cases r with
      | cons z t' r' => exact ⟨z :: y :: _, .cons z t' (.cons y t r'), .swap ..⟩
  | trans _ _ i1 i2 =>
    intro ss h
    obtain ⟨s1, a, b⟩ := i1 h
    obtain ⟨s2, c, d⟩ := i2 a
    exact ⟨s2, c, d.trans b⟩
theorem strsAre_app : ∀ {us vs : List Value} {ss rs : List Str}, StrsAre us ss → StrsAre vs rs → StrsAre (us ++ vs) (ss ++ rs)
  | _, _, _, _, .nil, k => k
  | _, _, _, _, .cons y t r, k => .cons y t (strsAre_app r k)
theorem strsAre_mem : ∀ {us : List Value} {ss : List Str}, StrsAre us ss → ∀ x, x ∈ ss ↔ ∃ v ∈ us, Value.isStrOf x v = true
  | _, _, .nil, x => by simp
  | _, _, .cons y t r, x => by
    rw [List.mem_cons, strsAre_mem r x]
    constructor
    · rintro (rfl | ⟨v, hv, e⟩)
      · exact ⟨_, List.mem_cons_self, by simp [Value.isStrOf]⟩
      · exact ⟨v, List.mem_cons_of_mem _ hv, e⟩
    · rintro ⟨v, hv, e⟩
      rcases List.mem_cons.mp hv with z | z
      · subst z
        obtain ⟨t', e'⟩ := Value.isStrOf_shape e
        cases e'
        exact .inl rfl
      · exact .inr ⟨v, z, e⟩
abbrev byTx (w : World) : Bool := w.params.followText "set-order"
def TokB (f : Bool) (n : Nat) (v : Value) : Prop := f = true → ∀ y t, v = .str y t → 0 < t ∧ t < n
theorem TokB.mono {f : Bool} {n m : Nat} {v : Value} (h : TokB f n v) (l : n ≤ m) : TokB f m v := fun e y t q => ⟨(h e y t q).1, Nat.lt_of_lt_of_le (h e y t q).2 l⟩
structure SetS (prog : Program) (w : World) (fb : Bool) (fn : Nat) (h : Heap) (a : Addr) (es : Array (Int × Value)) (ep : Nat) (t : SetTable) (ss : List Str) : Prop where
  at_ : h.get? a = some { cls := .type "set", dict := none, data := .set es ep t }
  txs : StrsAre (es.toList.map (·.2)) ss
  nd : ss.Nodup
  el : ElemsOf (PySem.strKind prog w) es.toList
  few : es.size < scanBound
  fits : t.fits es.size = true
  pl : t.plain = false ∨ es.size = 0
  led : t.led = true ∨ byTx w = true
  tb : ∀ e ∈ es.toList, TokB fb fn e.2
def SetAt (prog : Program) (w : World) (fb : Bool) (fn : Nat) (h : Heap) (a : Addr) (ss : List Str) : Prop := ∃ es ep t, SetS prog w fb fn h a es ep t ss
section
variable {prog : Program} {w : World} {A : Around} {E : Value → Shared → Prop} {s : Shared} {fb : Bool} {fn : Nat}
theorem SetS.size {h : Heap} {a : Addr} {es : Array (Int × Value)} {ep : Nat} {t : SetTable} {ss : List Str} (S : SetS prog w fb fn h a es ep t ss) : es.size = ss.length := by
  have := strsAre_len S.txs
  rw [List.length_map, Array.length_toList] at this
  exact this
theorem relay_flags (t : SetTable) (es : Array (Int × Value)) (n : Nat) : (relayAll t es n).2.1.led = t.led ∧ ((relayAll t es n).2.1.plain = t.plain ∨ (relayAll t es n).2.1.plain = false) := by
  unfold relayAll
  split
  · rename_i t' order e
    have ht : t'.led = t.led ∧ t'.plain = t.plain := by
      unfold SetTable.relaid SetTable.laid at e
      simp only [Option.bind_eq_bind, Option.bind_eq_some_iff, Option.pure_def, Option.some.injEq, Prod.mk.injEq] at e
      obtain ⟨_, _, e1, _⟩ := e
      rw [← e1]
      exact ⟨rfl, rfl⟩
    dsimp only
    split
    · exact ⟨ht.1, .inl ht.2⟩
    · exact ⟨rfl, .inr rfl⟩
  · exact ⟨rfl, .inr rfl⟩
theorem lay_flags (t : SetTable) (es : Array (Int × Value)) (k : Int) (x : Value) : (layNew t es k x).2.1.led = t.led ∧ ((layNew t es k x).2.1.plain = t.plain ∨ (layNew t es k x).2.1.plain = false) := by
  unfold layNew
  split
  · dsimp only
    unfold SetTable.orStandIn
    split
    · exact ⟨rfl, .inl rfl⟩
    · exact ⟨rfl, .inr rfl⟩
  · exact ⟨rfl, .inr rfl⟩
theorem SetS.put {h : Heap} {a : Addr} {es es' : Array (Int × Value)} {ep : Nat} {t t' : SetTable} {ss ss' : List Str} (S : SetS prog w fb fn h a es ep t ss)
    (hs : StrsAre (es'.toList.map (·.2)) ss') (nd : ss'.Nodup) (el : ElemsOf (PySem.strKind prog w) es'.toList) (few : es'.size < scanBound) (fits : t'.fits es'.size = true) (pl : t'.plain = false) (led : t'.led = t.led) (tb : ∀ e ∈ es'.toList, TokB fb fn e.2) :
    SetS prog w fb fn (h.update a (Obj.putSet es' t')) a es' (ep + 1) t' ss' := by
  refine ⟨?_, hs, nd, el, few, fits, .inl pl, by rw [led]; exact S.led, tb⟩
  have e := Heap.get?_update_self (Obj.putSet es' t') S.at_ (by rw [putSet_of es' t' rfl]; rfl)
  rw [putSet_of es' t' (o := { cls := .type "set", dict := none, data := .set es ep t }) rfl] at e
  exact e
theorem put_tail {g : Bool → Sem Unit} (hg : ∀ (b : Bool) (s₁ : Shared) (K : Unit → Shared → Prop), K () s₁ → wpAny (model prog w) A (g b) K E s₁)
    {a : Addr} {es es1 : Array (Int × Value)} {ep : Nat} {t t2 : SetTable} {ss s1 : List Str} {wd : Bool} {R : Option Bool → Shared → Prop} (S : SetS prog w fb fn s.heap a es ep t ss)
    (hs : StrsAre (es1.toList.map (·.2)) s1) (nd : s1.Nodup) (el : ElemsOf (PySem.strKind prog w) es1.toList) (few : es1.size < scanBound) (fits : t2.fits es1.size = true) (pl : t2.plain = false) (led : t2.led = t.led) (tb : ∀ e ∈ es1.toList, TokB fb fn e.2)
    (h : ∀ (h' : Heap) (s2 : List Str), Heap.SameBut a s.heap h' → SetAt prog w fb fn h' a s2 → s2.Perm s1 → R (some true) { s with heap := h' }) :
    wpAny (model prog w) A (storeSet a es1 t2 >>= fun _ => if (!wd && t2.tooFull) = true then (g (relayAll t2 es1 (SetTable.grown es1.size)).2.2 >>= fun _ => storeSet a (relayAll t2 es1 (SetTable.grown es1.size)).1 (relayAll t2 es1 (SetTable.grown es1.size)).2.1 >>= fun _ => pure (some true)) else pure (some true)) R E s := by
  refine wpAny_bind (wpAny_storeSet_of S.at_ rfl ?_ (fits_of_scanBound few))
  have S1 := S.put hs nd el few fits pl led tb
  have b1 := Heap.SameBut.update s.heap a (Obj.putSet es1 t2)
  by_cases hc : (!wd && t2.tooFull) = true
  · rw [if_pos hc]
    have hp := relayAll_perm t2 es1 (SetTable.grown es1.size)
    have hf := relayAll_fits t2 es1 (SetTable.grown es1.size)
    have hl := relay_flags t2 es1 (SetTable.grown es1.size)
    generalize relayAll t2 es1 (SetTable.grown es1.size) = Z at hp hf hl
    obtain ⟨es2, t3, gv⟩ := Z
    dsimp only at hp hf hl ⊢
    have hz : es2.size = es1.size := by
      have := hp.length_eq
      rw [Array.length_toList, Array.length_toList] at this
      exact this
    obtain ⟨s2, hs2, p2⟩ := strsAre_perm (hp.symm.map (·.2)) hs
    refine wpAny_bind (hg _ _ _ (wpAny_bind (wpAny_storeSet_of S1.at_ rfl (wpAny_pure ?_) (by rw [hz]; exact fits_of_scanBound few))))
    refine h _ s2 (b1.trans (Heap.SameBut.update _ a _)) ⟨_, _, _, S1.put hs2 (p2.nodup_iff.mpr nd) (el.perm hp) (by rw [hz]; exact few) hf ?_ hl.1 (fun e he => tb e (hp.mem_iff.mp he))⟩ p2
    rcases hl.2 with z | z
    · rw [z]; exact pl
    · exact z
  · rw [if_neg hc]
    exact wpAny_pure (h _ s1 b1 ⟨_, _, _, S1⟩ (.refl _))
theorem set_add {a : Addr} {ss : List Str} {x : Str} {u : Tok} {Q : Bool → Shared → Prop} (hS : SetAt prog w fb fn s.heap a ss) (hx0 : TokB fb fn (.str x u)) (room : ss.length + 1 < scanBound)
    (h : ∀ (h' : Heap) (b : Bool) (ss' : List Str), Heap.SameBut a s.heap h' → SetAt prog w fb fn h' a ss' → (∀ k, k ∈ ss' ↔ k ∈ ss ∨ k = x) → ss'.length ≤ ss.length + 1 → Q b { s with heap := h' }) :
    wpAny (model prog w) A (setAddHashed a (.str x u) (hashStr w x)) Q E s := by
  obtain ⟨es, ep, t, S⟩ := hS
  have hk : (PySem.strKind prog w).is x (.str x u) = true := by simp [PySem.strKind, Value.isStrOf]
  have hz := S.size
  unfold setAddHashed
  unfold setAddHashedIn
  refine wpAny_holding (wpAny_bind (wpAny_setState_of S.at_ rfl S.fits ?_))
  dsimp only
  rw [byScan_of (x := .str x u) rfl S.few S.el, if_pos rfl]
  unfold setAddByScan
  refine wpAny_bind (wpAny_bind (wpAny_rule (wpAny_bind (wpAny_setScan_of (knd := PySem.strKind prog w) hk S.at_ rfl S.fits S.el ?_))))
  cases hr : List.findIdx? (fun e => (PySem.strKind prog w).is x e.2) es.toList with
  | some j =>
    dsimp only
    obtain ⟨hj, hpj, _⟩ := List.findIdx?_eq_some_iff_getElem.mp hr
    have hx : x ∈ ss := (strsAre_mem S.txs x).mpr ⟨_, List.mem_map.mpr ⟨_, List.getElem_mem hj, rfl⟩, hpj⟩
    exact wpAny_pure (wpAny_pure (h s.heap false ss (Heap.SameBut.refl a s.heap) ⟨_, _, _, S⟩ (fun k => ⟨.inl, fun z => z.elim id fun e => e ▸ hx⟩) (Nat.le_succ _)))
  | none =>
    dsimp only
    have hx : x ∉ ss := fun z => by
      obtain ⟨v, hv, e⟩ := (strsAre_mem S.txs x).mp z
      obtain ⟨e1, he1, rfl⟩ := List.mem_map.mp hv
      have := List.findIdx?_eq_none_iff.mp hr e1 he1
      have e' : (PySem.strKind prog w).is x e1.2 = true := e
      rw [e'] at this
      cases this
    have hp := layNew_perm t es (hashStr w x) (.str x u)
    have hf := layNew_fits t es (hashStr w x) (.str x u)
    have hl := lay_flags t es (hashStr w x) (.str x u)
    have eh : (PySem.strKind prog w).hash x = hashStr w x := rfl
    generalize layNew t es (hashStr w x) (.str x u) = Z at hp hf hl ⊢
    obtain ⟨es1, t1, wd, gv⟩ := Z
    dsimp only at hp hf hl ⊢
    rw [Array.toList_push] at hp
    obtain ⟨s1, hs1, p1⟩ := strsAre_perm ((hp.symm).map (·.2)) (ss := ss ++ [x]) (by rw [List.map_append]; exact strsAre_app S.txs (.cons x u .nil))
    have nd1 : s1.Nodup := p1.nodup_iff.mpr (by rw [List.nodup_append]; exact ⟨S.nd, by simp, fun a ha b hb => by rw [List.mem_singleton.mp hb]; exact fun e => hx (e ▸ ha)⟩)
    have el1 : ElemsOf (PySem.strKind prog w) es1.toList := (S.el.push hk rfl).perm hp
    have tb1 : ∀ e ∈ es1.toList, TokB fb fn e.2 := fun e he => by
      rcases List.mem_append.mp (hp.mem_iff.mp he) with z | z
      · exact S.tb e z
      · rw [List.mem_singleton.mp z]; exact hx0
    have z1 : es1.size = ss.length + 1 := by
      have := strsAre_len hs1
      rw [List.length_map, Array.length_toList, p1.length_eq, List.length_append] at this
      exact this
    have fin : ∀ (h' : Heap) (s2 : List Str), Heap.SameBut a s.heap h' → SetAt prog w fb fn h' a s2 → s2.Perm s1 → Q true { s with heap := h' } := fun h' s2 sb S2 p2 =>
      h h' true s2 sb S2 (fun k => by rw [(p2.trans p1).mem_iff]; simp) (by rw [(p2.trans p1).length_eq]; simp)
    have hgv : ∀ (b : Bool) (s₁ : Shared) (K : Unit → Shared → Prop), K () s₁ → wpAny (model prog w) A (match b with | true => rule "set.scan.the-table-gave-way" | false => pure ()) K E s₁ := fun b s₁ K hK => by
      cases b
      · exact wpAny_pure hK
      · exact wpAny_rule hK
    refine wpAny_bind (hgv _ _ _ ?_)
    cases hpl : t1.plain with
    | true =>
      rw [if_pos rfl]
      refine wpAny_bind (wpAny_pure (a := false) ?_)
      exact put_tail hgv S hs1 nd1 el1 (by rw [z1]; exact room) (t2 := { t1 with plain := false }) (SetTable.fits_plain_off hf) rfl hl.1 tb1 fun h' s2 sb S2 p2 => wpAny_pure (fin h' s2 sb S2 p2)
    | false =>
      rw [if_neg (by simp)]
      refine wpAny_bind (wpAny_pure (a := true) ?_)
      exact put_tail hgv S hs1 nd1 el1 (by rw [z1]; exact room) (t2 := t1) hf hpl hl.1 tb1 fun h' s2 sb S2 p2 => wpAny_pure (fin h' s2 sb S2 p2)
theorem SetAt.keep {h h' : Heap} {a : Addr} {ss : List Str} (S : SetAt prog w fb fn h a ss) (k : ∀ o, h.get? a = some o → h'.get? a = some o) : SetAt prog w fb fn h' a ss := by
  obtain ⟨es, ep, t, S⟩ := S
  exact ⟨es, ep, t, k _ S.at_, S.txs, S.nd, S.el, S.few, S.fits, S.pl, S.led, S.tb⟩
theorem SetAt.bound {h : Heap} {a : Addr} {ss : List Str} {m : Nat} (S : SetAt prog w fb fn h a ss) (l : fn ≤ m) : SetAt prog w fb m h a ss := by
  obtain ⟨es, ep, t, S⟩ := S
  exact ⟨es, ep, t, S.at_, S.txs, S.nd, S.el, S.few, S.fits, S.pl, S.led, fun e he => (S.tb e he).mono l⟩
structure SW (prog : Program) (w : World) (A : Around) (I : Addr) (fp wr : List Addr) (n : Nat) (val : Nat → Str) (f : Bool) (St : Nat → Shared → Prop) : Prop where
  sub : ∀ b ∈ wr, b ∈ fp
  frame : ∀ i (s : Shared) h' tk, St i s → s.toks ≤ tk → (∀ b ∈ fp, ∀ o, s.heap.get? b = some o → h'.get? b = some o) → St i { s with heap := h', toks := tk }
  item : ∀ i (s : Shared) (Q : Option Value → Shared → Prop) (E : Value → Shared → Prop), i < n → St i s →
    (∀ t s', (f = true → s.toks ≤ t ∧ t < s'.toks) → St (i + 1) s' → Moved wr (fun a b => b = a) s s' → Q (some (.str (val i) t)) s') → wpAny (model prog w) A (pyNext (.ref I)) Q E s
  done : ∀ (s : Shared) (Q : Option Value → Shared → Prop) (E : Value → Shared → Prop), St n s → (∀ s', Moved wr (fun a b => b = a) s s' → Q none s') → wpAny (model prog w) A (pyNext (.ref I)) Q E s
theorem set_loop {R : Result → Shared → Prop} {I : Addr} {fp wr : List Addr} {n : Nat} {val : Nat → Str} {St : Nat → Shared → Prop} (W : SW prog w A.in1 I fp wr n val fb St) (S : Addr) (hS : S ∉ fp) (hb : n + 1 < scanBound) :
    ∀ (k i : Nat) (s : Shared) (ss : List Str), n - i = k → i ≤ n → St i s → (fb = true → 1 ≤ s.toks) → SetAt prog w fb s.toks s.heap S ss → ss.length ≤ i → (∀ x, x ∈ ss ↔ ∃ j, j < i ∧ val j = x) →
      (∀ s' ss', Moved (S :: wr) (fun a b => b = a) s s' → SetAt prog w fb s'.toks s'.heap S ss' → ss'.length ≤ n → (∀ x, x ∈ ss' ↔ ∃ j, j < n ∧ val j = x) → R (.ok (.ret .none)) s') →
      codeAny (model prog w) A (.builtin "set.update.loop" ⟨[.ref S, .ref I], []⟩) R s := by
  have nw : S ∉ wr := fun z => hS (W.sub _ z)
  have sub : ∀ b ∈ wr, b ∈ S :: wr := fun b z => .tail _ z
  intro k
  induction k with
  | zero =>
    intro i s ss hk hi st h1 hs hl hm hR
    obtain rfl : i = n := by omega
    refine codeAny_builtin PyProof.Rows.F.entry_set_update_loop ?_; rw [Around.under_plainId PyProof.Rows.F.plain_set_update_loop _]
    change wpAny _ A.in1 (pyNext (.ref I) >>= _) _ _ s
    refine wpAny_bind (W.done s _ _ st fun s' mv => ?_)
    exact wpAny_pure (hR s' ss (mv.mono sub) ((hs.keep fun o e => mv.heap S o nw e).bound mv.toks) hl hm)
  | succ k ih =>
    intro i s ss hk hi st h1 hs hl hm hR
    have lt : i < n := by omega
    refine codeAny_builtin PyProof.Rows.F.entry_set_update_loop ?_; rw [Around.under_plainId PyProof.Rows.F.plain_set_update_loop _]
    change wpAny _ A.in1 (pyNext (.ref I) >>= _) _ _ s
    refine wpAny_bind (W.item i s _ _ lt st fun t s' ht st' mv => ?_)
    have hs' : SetAt prog w fb (s'.toks + 1) s'.heap S ss := (hs.keep fun o e => mv.heap S o nw e).bound (Nat.le_succ_of_le mv.toks)
    have hx0 : TokB fb (s'.toks + 1) (.str (val i) t) := fun e y t' q => by
      cases q
      exact ⟨Nat.lt_of_lt_of_le (h1 e) (ht e).1, Nat.lt_succ_of_lt (ht e).2⟩
    change wpAny _ A.in1 (holding [Value.str (val i) t] (setAdd S (.str (val i) t)) >>= _) _ _ s'
    refine wpAny_bind (wpAny_holding ?_); unfold setAdd
    refine wpAny_holding (wpAny_bind ((PySem.strKind prog w).pyHash (k := val i) (by simp [PySem.strKind, Value.isStrOf]) ?_))
    refine set_add (s := { s' with toks := s'.toks + 1 }) hs' hx0 (by omega) fun h' b ss' sb S2 m2 l2 => ?_
    refine wpAny_pure ⟨plainId_quiet PyProof.Rows.F.plain_set_update_loop _, ih (i + 1) _ ss' (by omega) lt (W.frame _ s' _ _ st' (Nat.le_succ _) fun b hb o e => ?_) (fun _ => Nat.le_add_left _ _) S2 (by omega) (fun x => ?_) fun s'' s3 mv2 S3 l3 m3 => ?_⟩
    · rw [sb.2 b (fun z : b = S => hS (z ▸ hb))]; exact e
    · rw [m2, hm]
      constructor
      · rintro (⟨j, hj, e⟩ | e)
        · exact ⟨j, by omega, e⟩
        · exact ⟨i, by omega, e.symm⟩
      · rintro ⟨j, hj, e⟩
        by_cases z : j = i
        · exact .inr (by rw [← e, z])
        · exact .inl ⟨j, by omega, e⟩
    · refine hR s'' s3 (Moved.trans (fun _ _ _ h1 h2 => h2.trans h1) ((mv.mono sub).then_heap (Nat.le_succ _) fun b o hb e => ?_) mv2) S3 l3 m3
      rw [sb.2 b (fun z : b = S => hb (z ▸ .head _))]; exact e
theorem set_new1 (a : Value) {K : Value → Shared → Prop}
    (h : K (.ref s.heap.objs.size) { s with heap := s.heap.push { cls := .type "set", dict := none, data := .set #[] 0 (.fresh 0 0 (!byTx w)) } }) :
    codeAny (model prog w) A (.call (.builtin "set.__new__") ⟨[.type "set", a], []⟩) (wants K E) s := by
  refine codeAny_of_tree ?_
  change wpAny _ A.in1 (checkBuiltinCall "set.__new__" ⟨[.type "set", a], []⟩ >>= fun _ => again (.builtin "set.__new__" ⟨[.type "set", a], []⟩)) _ _ s
  refine wpAny_bind (wpAny_of_eq (PySem.F.newCall_set_1 a) (wpAny_pure ⟨plainId_quiet PySem.F.plain_set_new _, codeAny_builtin PySem.F.entry_set_new ?_⟩)); rw [Around.under_plainId PySem.F.plain_set_new _]
  unfold Builtin.«set.__new__»; unfold Builtin.Frozenset.newClass
  have hsub := PySem.sub_set_self
  obtain ⟨hp, g, d, tk, os⟩ := s
  dsimp only
  wp_walk
  refine wpAny_askSetting (wpAny_pure ?_); dsimp only; simp only [newObj]
  exact wpAny_bind (wpAny_alloc (wpAny_pure (wpAny_pure h)))
theorem set_of {v : Value} {T : String} {n : Nat} {Q : Value → Shared → Prop} (fb : Bool) (hh : A.handled = none) (hn : n + 1 < scanBound) (val : Nat → Str) (h1t : fb = true → 1 ≤ s.toks)
    (hT : ∀ h' : Heap, (∀ b o, s.heap.get? b = some o → h'.get? b = some o) → Shared.TypeIs { s with heap := h' } v T)
    (h1 : isSubtype (.type T) (.type "set") = pure false) (h2 : isSubtype (.type T) (.type "frozenset") = pure false) (h3 : (Value.type T == Value.type "dict") = false)
    (hit : ∀ (A' : Around) (h' : Heap) (K : Value → Shared → Prop) (E' : Value → Shared → Prop), (∀ b o, s.heap.get? b = some o → h'.get? b = some o) →
      (∀ (o : Obj) (fp wr : List Addr) (St : Nat → Shared → Prop), (∀ b ∈ fp, b = h'.objs.size ∨ b < s.heap.objs.size) → (∀ b ∈ wr, b = h'.objs.size) → (∀ A' : Around, A'.handled = none → SW prog w A' h'.objs.size fp wr n val fb St) → St 0 { s with heap := h'.push o } → K (.ref h'.objs.size) { s with heap := h'.push o }) →
      wpAny (model prog w) A' (pyIter v) K E' { s with heap := h' })
    (h : ∀ (h' : Heap) (tk : Nat) ss, (∀ b o, s.heap.get? b = some o → h'.get? b = some o) → SetAt prog w fb tk h' s.heap.objs.size ss → ss.length ≤ n → (∀ x, x ∈ ss ↔ ∃ j, j < n ∧ val j = x) → Q (.ref s.heap.objs.size) { s with heap := h', toks := tk }) :
    wpAny (model prog w) A (call (.type "set") [v]) Q E s := by
  obtain ⟨c, tl, hmro⟩ := PySem.F.called_set.mro
  have hmade := PySem.F.called_set.made
  have hsub := PySem.F.called_set.sub
  refine wpAny_call (codeAny_of_tree ?_); change wpAny _ _ (callAny (.type "set") _) _ _ _
  refine wpAny_pure ⟨Code.quiet_builtin _ (by decide +kernel), codeAny_builtin PySem.F.entry_type_call ?_⟩
  rw [Around.under_plain (weight_type_call_type "set" [v] []) rfl]
  have hn1 := PySem.F.called_set.notType
  have hn2 := PySem.F.called_set.canCreate
  have hct := PySem.F.typeCall_set_1 v
  repeat (any_goals (first | assumption | wp_step))
  refine codeAny_mono (set_new1 v (E := E) (K := fun obj s₁ => obj = .ref s.heap.objs.size ∧ s₁ = { s with heap := s.heap.push { cls := .type "set", dict := none, data := .set #[] 0 (.fresh 0 0 (!byTx w)) } }) ⟨rfl, rfl⟩) fun r s₁ hr => ?_
  cases r with
  | error e => exact hr
  | ok fl =>
    cases fl with
    | ret obj =>
      obtain ⟨rfl, rfl⟩ := hr
      have hO : (s.heap.push { cls := .type "set", dict := none, data := .set #[] 0 (.fresh 0 0 (!byTx w)) }).get? s.heap.objs.size = some { cls := .type "set", dict := none, data := .set #[] 0 (.fresh 0 0 (!byTx w)) } := Heap.get?_push_size _ rfl
      have hOT : Shared.TypeIs { s with heap := s.heap.push { cls := .type "set", dict := none, data := .set #[] 0 (.fresh 0 0 (!byTx w)) } } (.ref s.heap.objs.size) "set" := ⟨_, hO, rfl⟩
      have kp : ∀ b o, s.heap.get? b = some o → (s.heap.push { cls := .type "set", dict := none, data := .set #[] 0 (.fresh 0 0 (!byTx w)) }).get? b = some o := fun b o e => Heap.get?_push_of_some _ e
      have hS0 : SetAt prog w fb s.toks (s.heap.push { cls := .type "set", dict := none, data := .set #[] 0 (.fresh 0 0 (!byTx w)) }) s.heap.objs.size [] := by
        refine ⟨_, _, _, hO, .nil, List.nodup_nil, (fun e he => by simp at he), by decide, rfl, .inr rfl, ?_, (fun e he => by simp at he)⟩
        change (!byTx w) = true ∨ _
        cases byTx w <;> simp
      have hz : (s.heap.push { cls := .type "set", dict := none, data := .set #[] 0 (.fresh 0 0 (!byTx w)) }).objs.size = s.heap.objs.size + 1 := Heap.size_push ..
      have hVT := hT _ kp
      generalize s.heap.push { cls := .type "set", dict := none, data := .set #[] 0 (.fresh 0 0 (!byTx w)) } = H1 at hO hOT kp hS0 hz hVT ⊢
      have hli := PySem.F.called_set.init.lookup
      have hbi := PySem.F.called_set.init.bind (.ref s.heap.objs.size)
      repeat (any_goals (first | assumption | wp_step))
      refine codeAny_mono (codeAny_call_builtin (R := wants (fun r s₂ => r = .none ∧ ∃ h' tk ss, s₂ = { s with heap := h', toks := tk } ∧ (∀ b o, s.heap.get? b = some o → h'.get? b = some o) ∧ SetAt prog w fb tk h' s.heap.objs.size ss ∧ ss.length ≤ n ∧ ∀ x, x ∈ ss ↔ ∃ j, j < n ∧ val j = x) E) PySem.F.called_set.init.plain PySem.F.entry_set_init (check_set_init_1 hOT ?_)) fun r₂ s₂ hr₂ => ?_
      · unfold Builtin.«set.__init__»; unfold noKeywords; unfold Builtin.Frozenset.updateFrom
        generalize hPI : pyIter = PI
        wp_walk
        subst hPI
        refine hit _ _ _ _ kp fun o fp wr St hfp hwr W hst => ?_
        refine wpAny_bind (wpAny_runValue ?_)
        have hh3 : A.in1.in1.in1.handled = none := by simp [hh]
        have hSf : s.heap.objs.size ∉ fp := fun z => by
          rcases hfp _ z with e | e
          · rw [hz] at e
            exact absurd e (Nat.ne_of_lt (Nat.lt_succ_self _))
          · exact absurd e (Nat.lt_irrefl _)
        refine set_loop (W _ hh3) s.heap.objs.size hSf hn (n - 0) 0 _ [] rfl (Nat.zero_le _) hst h1t (hS0.keep fun o e => Heap.get?_push_of_some _ e) (Nat.le_refl _) (fun x => by simp) fun s' ss mv S2 l2 m2 => ?_
        obtain ⟨h', g', d', tk', os'⟩ := s'
        have eg : g' = s.gens := mv.gens
        have ed : d' = s.drawn := mv.drawn
        have eo : os' = s.os := mv.os
        subst eg; subst ed; subst eo
        change wpAny _ _ _ _ _ _
        refine wpAny_pure ?_; change wpAny _ _ (ret Value.none) _ _ _
        refine wpAny_pure ⟨rfl, h', tk', ss, rfl, fun b o e => ?_, S2, l2, m2⟩
        have lt := Heap.lt_size e
        refine mv.heap b o (fun z => ?_) (Heap.get?_push_of_some _ (kp b o e))
        rcases List.mem_cons.mp z with z | z
        · rw [z] at lt
          exact absurd lt (Nat.lt_irrefl _)
        · rw [hwr b z, hz] at lt
          exact absurd lt (Nat.not_lt.mpr (Nat.le_succ _))
      · cases r₂ with
        | error e => exact hr₂
        | ok fl₂ =>
          cases fl₂ with
          | ret r =>
            obtain ⟨rfl, h', tk, ss, rfl, kp2, S2, l2, m2⟩ := hr₂
            repeat (any_goals (first | assumption | wp_step))
            exact h _ _ ss kp2 S2 l2 m2
          | _ => exact hr₂.elim
    | _ => exact hr.elim
end
end L2
namespace L2
open PySem PySem.Spec PyProof.Rows
theorem HWpop {α : Type} : ∀ {l : List α} {k : Nat} {y : α}, l[k]? = some y → (l.eraseIdx k ++ [y]).Perm l
  | [], _, _, h => by simp at h
  | x :: l, 0, y, h => by
    obtain rfl : x = y := by simpa using h
    exact List.perm_append_comm (l₁ := l) (l₂ := [x])
  | x :: l, k + 1, y, h => by
    have := HWpop (l := l) (k := k) (y := y) (by simpa using h)
    exact this.cons x
namespace FS
theorem slot_next : Slot "set_iterator" "__next__" "set_iterator.__next__" := Slot.of (owner := "set_iterator") (n := "__next__") (by rw [typeLookup_type, builtinLookup_eq_fast]; kernel_rfl) (by decide +kernel) (by decide +kernel) (by decide +kernel) (by first | exact .inl (by decide +kernel) | exact .inr (by decide +kernel)) (by rw [isSubtype_type]; kernel_rfl)
theorem entry_next : entryFor table "set_iterator.__next__" = some Builtin.«set_iterator.__next__» := entryFor_of_tree (by kernel_rfl)
theorem args_next (a : Value) : argsOk "set_iterator.__next__" ⟨[a], []⟩ := by unfold argsOk; kernel_rfl
theorem slot_iter : Slot "set_iterator" "__iter__" "set_iterator.__iter__" := Slot.of (owner := "set_iterator") (n := "__iter__") (by rw [typeLookup_type, builtinLookup_eq_fast]; kernel_rfl) (by decide +kernel) (by decide +kernel) (by decide +kernel) (by first | exact .inl (by decide +kernel) | exact .inr (by decide +kernel)) (by rw [isSubtype_type]; kernel_rfl)
theorem entry_iter : entryFor table "set_iterator.__iter__" = some Builtin.«dict_keyiterator.__iter__» := entryFor_alias (id' := "dict_keyiterator.__iter__") (by kernel_rfl) rfl (by decide +kernel) (by kernel_rfl)
theorem args_iter (a : Value) : argsOk "set_iterator.__iter__" ⟨[a], []⟩ := by unfold argsOk; kernel_rfl
theorem entry_set_iter : entryFor table "set.__iter__" = some Builtin.«frozenset.__iter__» := entryFor_alias (id' := "frozenset.__iter__") (by kernel_rfl) rfl (by decide +kernel) (by kernel_rfl)
theorem set_len : typeLookup (.type "set") "__len__" = pure (some (.builtin "set.__len__")) := by rw [typeLookup_type, builtinLookup_eq_fast]; kernel_rfl
end FS
theorem pick_go {α : Type} (next : Nat → Nat) : ∀ (n k : Nat) (left : List α) (out : Array α), left.length = n → (pickOrder.go next n k left out).toList.Perm (out.toList ++ left)
  | 0, k, left, out, h => by
    rw [List.length_eq_zero_iff.mp h]
    unfold pickOrder.go
    simp
  | n + 1, k, left, out, h => by
    have hl : next k % left.length < left.length := Nat.mod_lt _ (by omega)
    unfold pickOrder.go
    rw [List.getElem?_eq_getElem hl]
    dsimp only
    refine (pick_go next n (k + 1) _ _ (by rw [List.length_eraseIdx_of_lt hl]; omega)).trans ?_
    rw [Array.toList_push, List.append_assoc]
    refine List.Perm.append_left _ ?_
    have := HWpop (List.getElem?_eq_getElem hl)
    exact (List.perm_append_comm).trans this
theorem pick_perm {α : Type} (next : Nat → Nat) (xs : Array α) : (pickOrder next xs).toList.Perm xs.toList := by
  unfold pickOrder
  have := pick_go next xs.size 0 xs.toList #[] (by rw [Array.length_toList])
  simpa using this
section
variable {prog : Program} {w : World} {A : Around} {E : Value → Shared → Prop} {s : Shared}
theorem wp_draw {α : Type} : ∀ (n : Nat) (xs : List α) (s : Shared) (Q : List α → Shared → Prop), n = xs.length → (∀ ys d, ys.Perm xs → Q ys { s with drawn := d }) → wpAny (model prog w) A (drawOrder n xs) Q E s
  | 0, xs, s, Q, h, k => by
    rw [List.length_eq_zero_iff.mp h.symm] at k ⊢
    exact wpAny_pure (k [] s.drawn (.refl _))
  | n + 1, [], s, Q, h, k => by cases h
  | n + 1, x :: xs, s, Q, h, k => by
    unfold drawOrder
    refine wpAny_bind (fun Γ p hΓ => ⟨by simp, ?_⟩)
    have hl : (model prog w).w.draws .order (s.drawn.get .order) % (x :: xs).length < (x :: xs).length := Nat.mod_lt _ (by simp)
    generalize (model prog w).w.draws .order (s.drawn.get .order) % (x :: xs).length = i at hl ⊢
    have go : wpAny (model prog w) A (match (x :: xs)[i]? with | some y => (do return y :: (← drawOrder n ((x :: xs).eraseIdx i))) | none => unsupported "internal:drawOrder") Q E { s with drawn := s.drawn.bump .order } := by
      rw [List.getElem?_eq_getElem hl]
      dsimp only
      refine wpAny_bind (wp_draw n _ _ _ (by rw [List.length_eraseIdx_of_lt hl]; omega) fun ys d hp => wpAny_pure (k _ d ?_))
      exact (hp.cons _).trans ((List.perm_append_comm (l₁ := [_])).trans (HWpop (List.getElem?_eq_getElem hl)))
    exact fun Γ p hΓ => go Γ p hΓ
end
end L2
namespace L2
open PySem PySem.Spec PyProof.Rows
section
variable {prog : Program} {w : World} {A : Around} {E : Value → Shared → Prop} {s : Shared} {fb : Bool} {fn : Nat}
abbrev siRec (f : Value) (i : Nat) (a : Addr) (n ep : Nat) : Obj := { cls := .type "set_iterator", data := .fields #[f, .int i 0, .ref a, .int n 0, .int ep 0] }
theorem si_stop {h : Heap} {I : Addr} {Q : Option Value → Shared → Prop} {B : Around} (hB : B.handled = none) {K : PySem.Fin → Shared → Prop}
    (hQ : ∀ h', Heap.ExtBut I s.heap h' → Q none { s with heap := h' }) (hE : Heap.ExtBut I s.heap h) :
    wpAny (model prog w) B (newExc (.type "StopIteration") [] >>= fun e => raiseNew (α := PySem.Fin) e) K (fun e s' => wpAny (model prog w) A (isInstance e (.type "StopIteration") >>= fun b => if b then pure none else throw e) Q E s') { s with heap := h } := by
  refine wpAny_bind ?_
  simp only [newExc, newTuple]
  refine wpAny_bind (wpAny_newObj_type ?_ (by size_fits))
  refine wpAny_bind (m := firstArgMember _ _) (wpAny_of_eq (a := Value.none) (by first | rfl | (simp only [firstArgMember]; rfl)) ?_)
  refine wpAny_newObj_type ?_ (by size_fits)
  simp only [raiseNew]
  refine wpAny_bind (wpAny_handled ?_)
  rw [hB]
  refine wpAny_bind (wpAny_pure (wpAny_throw ?_))
  refine wpAny_bind (wpAny_isInstance (T := "StopIteration") (b := true) ⟨_, Heap.get?_push_size _ rfl, rfl⟩ isSubtype_stop ?_)
  exact wpAny_pure (hQ _ ((hE.push _).push _))
theorem si_slot {I a : Addr} {es : Array (Int × Value)} {ep i sl nx : Nat} {t : SetTable} {ss : List Str} {x : Value} {Q : Option Value → Shared → Prop} (hI : s.heap.get? I = some (siRec (.int sl 0) i a es.size ep)) (S : SetS prog w fb fn s.heap a es ep t ss)
    (hx : ∀ (B : Around) (K : Option (Value × Nat) → Shared → Prop) (E' : Value → Shared → Prop), K (some (x, nx)) s → wpAny (model prog w) B (setNext a sl i ep) K E' s)
    (hQ : ∀ h', h'.get? I = some (siRec (.int nx 0) (i + 1) a es.size ep) → Heap.SameBut I s.heap h' → Q (some x) { s with heap := h' }) : wpAny (model prog w) A (pyNext (.ref I)) Q E s := by
  have hT : s.TypeIs (.ref I) "set_iterator" := ⟨_, hI, rfl⟩
  unfold pyNext
  refine wpAny_bind (wpAny_attempt (wpAny_callSpecial?_slot (name := Str.ofString "__next__") hT FS.slot_next (wpAny_call_entry FS.slot_next hT FS.entry_next ?_ (FS.args_next _))))
  change wpAny _ _ (fieldsOf (.ref I) >>= _) _ _ s
  refine wpAny_bind (wpAny_fieldsOf hI rfl ?_)
  dsimp only
  change wpAny _ _ (setEntries a >>= _) _ _ s
  refine wpAny_bind (wpAny_setEntries_of S.at_ rfl S.fits ?_)
  rw [if_neg (by simp)]
  simp only [Int.toNat_natCast]
  refine wpAny_bind (hx _ _ _ ?_)
  dsimp only
  refine wpAny_bind (wpAny_setField_rec hI (by simp) fun h1 e1 b1 => ?_)
  refine wpAny_bind (wpAny_setField_rec e1 (by simp) fun h2 e2 b2 => ?_)
  refine wpAny_pure ⟨_, rfl, wpAny_pure (hQ h2 ?_ (b1.trans b2))⟩
  rw [e2]
  simp [siRec, rawInt]
theorem si_slot_end {I a : Addr} {es : Array (Int × Value)} {ep i sl : Nat} {t : SetTable} {ss : List Str} {Q : Option Value → Shared → Prop} (hh : A.handled = none) (hI : s.heap.get? I = some (siRec (.int sl 0) i a es.size ep)) (S : SetS prog w fb fn s.heap a es ep t ss)
    (hx : ∀ (B : Around) (K : Option (Value × Nat) → Shared → Prop) (E' : Value → Shared → Prop), K none s → wpAny (model prog w) B (setNext a sl i ep) K E' s)
    (hQ : ∀ h', Heap.ExtBut I s.heap h' → Q none { s with heap := h' }) : wpAny (model prog w) A (pyNext (.ref I)) Q E s := by
  have hT : s.TypeIs (.ref I) "set_iterator" := ⟨_, hI, rfl⟩
  unfold pyNext
  refine wpAny_bind (wpAny_attempt (wpAny_callSpecial?_slot (name := Str.ofString "__next__") hT FS.slot_next (wpAny_call_entry FS.slot_next hT FS.entry_next ?_ (FS.args_next _))))
  change wpAny _ _ (fieldsOf (.ref I) >>= _) _ _ s
  refine wpAny_bind (wpAny_fieldsOf hI rfl ?_)
  dsimp only
  change wpAny _ _ (setEntries a >>= _) _ _ s
  refine wpAny_bind (wpAny_setEntries_of S.at_ rfl S.fits ?_)
  rw [if_neg (by simp)]
  simp only [Int.toNat_natCast]
  refine wpAny_bind (hx _ _ _ ?_)
  dsimp only
  refine wpAny_bind (wpAny_setField_rec hI (by simp) fun h1 e1 b1 => ?_)
  exact si_stop (show A.in1.handled = none from hh) hQ b1.extBut
theorem si_drawn {I a T : Addr} {es : Array (Int × Value)} {ep i pl m : Nat} {u : Tok} {t : SetTable} {ss : List Str} {k : Int} {x : Value} {items : Array Value} {Q : Option Value → Shared → Prop} (hI : s.heap.get? I = some (siRec (.ref T) i a es.size ep)) (S : SetS prog w fb fn s.heap a es ep t ss)
    (hT2 : s.heap.get? T = some { cls := .type "tuple", data := .seq items m }) (hi : items[i]? = some (.int pl u)) (hx : es[pl]? = some (k, x))
    (hQ : ∀ h', h'.get? I = some (siRec (.ref T) (i + 1) a es.size ep) → Heap.SameBut I s.heap h' → Q (some x) { s with heap := h' }) : wpAny (model prog w) A (pyNext (.ref I)) Q E s := by
  have hT : s.TypeIs (.ref I) "set_iterator" := ⟨_, hI, rfl⟩
  unfold pyNext
  refine wpAny_bind (wpAny_attempt (wpAny_callSpecial?_slot (name := Str.ofString "__next__") hT FS.slot_next (wpAny_call_entry FS.slot_next hT FS.entry_next ?_ (FS.args_next _))))
  change wpAny _ _ (fieldsOf (.ref I) >>= _) _ _ s
  refine wpAny_bind (wpAny_fieldsOf hI rfl ?_)
  dsimp only
  change wpAny _ _ (setEntries a >>= _) _ _ s
  refine wpAny_bind (wpAny_setEntries_of S.at_ rfl S.fits ?_)
  rw [if_neg (by simp)]
  refine wpAny_bind (wpAny_seqItems hT2 rfl ?_)
  simp only [Int.toNat_natCast, hi]
  unfold setNextDrawn
  refine wpAny_bind (wpAny_bind (wpAny_setState_of S.at_ rfl S.fits ?_))
  dsimp only
  rw [if_neg (by simp)]
  simp only [hx]
  refine wpAny_pure ?_
  refine wpAny_bind (wpAny_setField_rec hI (by simp) fun h1 e1 b1 => ?_)
  refine wpAny_pure ⟨_, rfl, wpAny_pure (hQ h1 ?_ b1)⟩
  rw [e1]
  simp [siRec, rawInt]
theorem si_drawn_end {I a T : Addr} {es : Array (Int × Value)} {ep i m : Nat} {t : SetTable} {ss : List Str} {items : Array Value} {Q : Option Value → Shared → Prop} (hh : A.handled = none) (hI : s.heap.get? I = some (siRec (.ref T) i a es.size ep)) (S : SetS prog w fb fn s.heap a es ep t ss)
    (hT2 : s.heap.get? T = some { cls := .type "tuple", data := .seq items m }) (hi : items[i]? = none)
    (hQ : ∀ h', Heap.ExtBut I s.heap h' → Q none { s with heap := h' }) : wpAny (model prog w) A (pyNext (.ref I)) Q E s := by
  have hT : s.TypeIs (.ref I) "set_iterator" := ⟨_, hI, rfl⟩
  unfold pyNext
  refine wpAny_bind (wpAny_attempt (wpAny_callSpecial?_slot (name := Str.ofString "__next__") hT FS.slot_next (wpAny_call_entry FS.slot_next hT FS.entry_next ?_ (FS.args_next _))))
  change wpAny _ _ (fieldsOf (.ref I) >>= _) _ _ s
  refine wpAny_bind (wpAny_fieldsOf hI rfl ?_)
  dsimp only
  change wpAny _ _ (setEntries a >>= _) _ _ s
  refine wpAny_bind (wpAny_setEntries_of S.at_ rfl S.fits ?_)
  rw [if_neg (by simp)]
  refine wpAny_bind (wpAny_seqItems hT2 rfl ?_)
  simp only [Int.toNat_natCast, hi]
  refine wpAny_bind (wpAny_setField_rec hI (by simp) fun h1 e1 b1 => ?_)
  refine wpAny_bind (wpAny_setField_rec e1 (by simp) fun h2 e2 b2 => ?_)
  exact si_stop (s := s) (show A.in1.handled = none from hh) hQ (b1.trans b2).extBut
theorem SetS.keep {h h' : Heap} {a : Addr} {es : Array (Int × Value)} {ep : Nat} {t : SetTable} {ss : List Str} (S : SetS prog w fb fn h a es ep t ss) (k : ∀ o, h.get? a = some o → h'.get? a = some o) : SetS prog w fb fn h' a es ep t ss :=
  ⟨k _ S.at_, S.txs, S.nd, S.el, S.few, S.fits, S.pl, S.led, S.tb⟩
theorem nx_text {a : Addr} {es : Array (Int × Value)} {ep i sl : Nat} {t : SetTable} {ss : List Str} {K : Option (Value × Nat) → Shared → Prop} (S : SetS prog w fb fn s.heap a es ep t ss) (hb : byTx w = true)
    (h : K (((pickOrder (w.params.setOrder a ep) es)[i]?).map fun e => (e.2, sl)) s) : wpAny (model prog w) A (setNext a sl i ep) K E s := by
  have eb : ({ program := (model prog w).prog, params := (model prog w).w.params } : Setting).params.followText "set-order" = true := hb
  unfold setNext
  refine wpAny_bind (wpAny_setState_of S.at_ rfl S.fits ?_)
  dsimp only
  unfold setsByText
  refine wpAny_bind (wpAny_bind (wpAny_askSetting (wpAny_pure ?_)))
  rw [if_pos eb, if_neg (by simp)]
  unfold setWalk
  refine wpAny_bind (wpAny_bind (wpAny_setState_of S.at_ rfl S.fits ?_))
  dsimp only
  unfold setsByText
  refine wpAny_bind (wpAny_bind (wpAny_askSetting (wpAny_pure ?_)))
  rw [if_pos eb]
  exact wpAny_bind (wpAny_askSetting (wpAny_pure (wpAny_pure h)))
theorem nx_few {a : Addr} {es : Array (Int × Value)} {ep i sl : Nat} {t : SetTable} {ss : List Str} {K : Option (Value × Nat) → Shared → Prop} (S : SetS prog w fb fn s.heap a es ep t ss) (hb : byTx w = false) (hf : es.size ≤ 1)
    (h : K (match es[SetTable.below t.place sl]?, t.place[SetTable.below t.place sl]? with | some (_, x), some j => some (x, j + 1) | _, _ => none) s) : wpAny (model prog w) A (setNext a sl i ep) K E s := by
  have hl : t.led = true := S.led.resolve_right (by rw [hb]; simp)
  have eb : ¬ ({ program := (model prog w).prog, params := (model prog w).w.params } : Setting).params.followText "set-order" = true := by show ¬ byTx w = true; rw [hb]; simp
  unfold setNext
  refine wpAny_bind (wpAny_setState_of S.at_ rfl S.fits ?_)
  dsimp only
  unfold setsByText
  refine wpAny_bind (wpAny_bind (wpAny_askSetting (wpAny_pure ?_)))
  rw [if_neg eb]
  split
  · rename_i hd
    have : (!t.plain && decide (es.size > 1)) = true := hd
    simp at this
    omega
  · refine wpAny_bind ?_
    change wpAny _ _ (if (!t.led && !es.isEmpty) = true then _ else _) _ _ _
    rw [hl, if_neg (by simp)]
    exact wpAny_pure (wpAny_pure h)
end
end L2
namespace L2
open PySem PySem.Spec PyProof.Rows
section
variable {prog : Program} {w : World} {A : Around} {E : Value → Shared → Prop} {s : Shared} {fb : Bool} {fn : Nat}
theorem si_self {I a : Addr} {f : Value} {i n ep : Nat} {Q : Value → Shared → Prop} (hI : s.heap.get? I = some (siRec f i a n ep)) (h : Q (.ref I) s) : wpAny (model prog w) A (pyIter (.ref I)) Q E s := by
  have hT : s.TypeIs (.ref I) "set_iterator" := ⟨_, hI, rfl⟩
  refine wpAny_pyIter_slot hT FS.slot_iter (wpAny_call_entry FS.slot_iter hT FS.entry_iter ?_ (FS.args_iter _))
  change wpAny _ _ (ret (.ref I)) _ _ s
  exact wpAny_pure ⟨_, rfl, "set_iterator", _, hT, FS.slot_next.lookup, h⟩
abbrev setVs (es : Array (Int × Value)) : List Value := es.toList.map (·.2)
theorem walk_text (hh : A.handled = none) {I a : Addr} (ha : a ≠ I) {es : Array (Int × Value)} {ep : Nat} {t : SetTable} {ss : List Str} (hb : byTx w = true) :
    Walks prog w A I [I, a] [I] ((pickOrder (w.params.setOrder a ep) es).toList.map (·.2)).length (fun i v => ((pickOrder (w.params.setOrder a ep) es).toList.map (·.2))[i]? = some v)
      (fun i h => h.get? I = some (siRec (.int (0 : Nat) 0) i a es.size ep) ∧ SetS prog w fb fn h a es ep t ss) where
  sub := fun b hb => by rw [List.mem_singleton.mp hb]; exact .head _
  frame := fun i h h' st hk => ⟨hk I (.head _) _ st.1, st.2.keep fun o e => hk a (.tail _ (.head _)) o e⟩
  item := fun i s Q E hi st hQ => by
    obtain ⟨e, he⟩ : ∃ e, (pickOrder (w.params.setOrder a ep) es)[i]? = some e := ⟨_, Array.getElem?_eq_getElem (by rw [List.length_map, Array.length_toList] at hi; exact hi)⟩
    refine si_slot (x := e.2) (nx := 0) st.1 st.2 (fun B K E' k => nx_text st.2 hb (by rw [he]; exact k)) fun h' e' sb => ?_
    exact hQ e.2 h' s.toks (by rw [List.getElem?_map, Array.getElem?_toList, he]; rfl) ⟨e', st.2.keep fun o q => (sb.2 a ha).trans q⟩ fun b o nb q => (sb.2 b (fun z => nb (z ▸ .head _))).trans q
  done := fun s Q E st hQ => by
    refine si_slot_end hh st.1 st.2 (fun B K E' k => nx_text st.2 hb ?_) fun h' ex => hQ h' s.toks fun b o nb q => ex b o (fun z => nb (z ▸ .head _)) q
    rw [Array.getElem?_eq_none (by rw [List.length_map, Array.length_toList]; exact Nat.le_refl _)]
    exact k
  self := fun i s Q E st hQ => si_self st.1 hQ
theorem walk_drawn (hh : A.handled = none) {I a T : Addr} (ha : a ≠ I) (hT : T ≠ I) {es : Array (Int × Value)} {ep : Nat} {t : SetTable} {ss : List Str} (ps : List Nat) (hp : ∀ p ∈ ps, p < es.size) :
    Walks prog w A I [I, a, T] [I] (ps.map fun p => (setVs es).getD p .none).length (fun i v => (ps.map fun p => (setVs es).getD p .none)[i]? = some v)
      (fun i h => h.get? I = some (siRec (.ref T) i a es.size ep) ∧ SetS prog w fb fn h a es ep t ss ∧ h.get? T = some { cls := .type "tuple", data := .seq (ps.map fun (p : Nat) => rawInt p).toArray }) where
  sub := fun b hb => by rw [List.mem_singleton.mp hb]; exact .head _
  frame := fun i h h' st hk => ⟨hk I (.head _) _ st.1, st.2.1.keep fun o e => hk a (.tail _ (.head _)) o e, hk T (.tail _ (.tail _ (.head _))) _ st.2.2⟩
  item := fun i s Q E hi st hQ => by
    rw [List.length_map] at hi
    have hps : ps[i]? = some ps[i] := List.getElem?_eq_getElem hi
    have hlt := hp _ (List.getElem_mem hi)
    have he : es[ps[i]]? = some (es[ps[i]].1, es[ps[i]].2) := Array.getElem?_eq_getElem hlt
    refine si_drawn (pl := ps[i]) (u := 0) st.1 st.2.1 st.2.2 (by simp [rawInt, hps]) he fun h' e' sb => ?_
    refine hQ _ h' s.toks ?_ ⟨e', st.2.1.keep fun o q => (sb.2 a ha).trans q, (sb.2 T hT).trans st.2.2⟩ fun b o nb q => (sb.2 b (fun z => nb (z ▸ .head _))).trans q
    rw [List.getElem?_map, hps]
    show some ((setVs es).getD ps[i] .none) = _
    rw [List.getD_eq_getElem?_getD, List.getElem?_map, Array.getElem?_toList, he]
    rfl
  done := fun s Q E st hQ => si_drawn_end hh st.1 st.2.1 st.2.2 (by simp) fun h' ex => hQ h' s.toks fun b o nb q => ex b o (fun z => nb (z ▸ .head _)) q
  self := fun i s Q E st hQ => si_self st.1 hQ
theorem below_one (j : Nat) : SetTable.below #[j] 0 = 0 ∧ SetTable.below #[j] (j + 1) = 1 := by
  constructor
  · simp [SetTable.below, SetTable.below.go]
  · simp [SetTable.below, SetTable.below.go]
theorem walk_few (hh : A.handled = none) {I a : Addr} (ha : a ≠ I) {es : Array (Int × Value)} {ep : Nat} {t : SetTable} {ss : List Str} (hb : byTx w = false) (hf : es.size ≤ 1) (hpz : t.place.size = es.size) :
    Walks prog w A I [I, a] [I] (setVs es).length (fun i v => (setVs es)[i]? = some v)
      (fun i h => h.get? I = some (siRec (.int (if i = 0 then 0 else t.place.getD 0 0 + 1 : Nat) 0) i a es.size ep) ∧ SetS prog w fb fn h a es ep t ss) where
  sub := fun b hb => by rw [List.mem_singleton.mp hb]; exact .head _
  frame := fun i h h' st hk => ⟨hk I (.head _) _ st.1, st.2.keep fun o e => hk a (.tail _ (.head _)) o e⟩
  item := fun i s Q E hi st hQ => by
    rw [List.length_map, Array.length_toList] at hi
    obtain rfl : i = 0 := by omega
    have hz : es.size = 1 := by omega
    obtain ⟨e, rfl⟩ : ∃ e, es = #[e] := Array.size_eq_one_iff.mp hz
    obtain ⟨j, hj⟩ : ∃ j, t.place = #[j] := Array.size_eq_one_iff.mp (hpz.trans hz)
    refine si_slot (x := e.2) (nx := j + 1) st.1 st.2 (fun B K E' k => nx_few st.2 hb hf ?_) fun h' e' sb => ?_
    · rw [if_pos rfl, hj, (below_one j).1]
      exact k
    · refine hQ e.2 h' s.toks rfl ⟨?_, st.2.keep fun o q => (sb.2 a ha).trans q⟩ fun b o nb q => (sb.2 b (fun z => nb (z ▸ .head _))).trans q
      rw [e', hj]
      rfl
  done := fun s Q E st hQ => by
    refine si_slot_end hh st.1 st.2 (fun B K E' k => nx_few st.2 hb hf ?_) fun h' ex => hQ h' s.toks fun b o nb q => ex b o (fun z => nb (z ▸ .head _)) q
    have hl : (setVs es).length = es.size := by rw [List.length_map, Array.length_toList]
    rw [hl]
    by_cases hz : es.size = 0
    · rw [if_pos hz]
      obtain rfl := Array.size_eq_zero_iff.mp hz
      exact k
    · obtain ⟨e, rfl⟩ : ∃ e, es = #[e] := Array.size_eq_one_iff.mp (by omega)
      obtain ⟨j, hj⟩ : ∃ j, t.place = #[j] := Array.size_eq_one_iff.mp hpz
      rw [if_neg hz, hj]
      show K (match #[e][SetTable.below #[j] (j + 1)]?, #[j][SetTable.below #[j] (j + 1)]? with | some (_, x), some j => some (x, j + 1) | _, _ => none) s
      rw [(below_one j).2]
      exact k
  self := fun i s Q E st hQ => si_self st.1 hQ
theorem range_get {α : Type} (d : α) : ∀ l : List α, (List.range l.length).map (fun p => l.getD p d) = l
  | [] => rfl
  | x :: l => by
    rw [List.length_cons, List.range_succ_eq_map, List.map_cons, List.map_map]
    have := range_get d l
    show x :: _ = _
    congr 1
theorem iter_set {a : Addr} {ss : List Str} {Q : Value → Shared → Prop} (hS : SetAt prog w fb fn s.heap a ss)
    (hQ : ∀ (s' : Shared) (I : Addr) (fp : List Addr) (vs : List Value) (ss' : List Str) (St : Nat → Heap → Prop), (∀ b o, s.heap.get? b = some o → s'.heap.get? b = some o) → s'.gens = s.gens → s'.os = s.os → s.heap.objs.size ≤ I → (∀ b ∈ fp, b = a ∨ s.heap.objs.size ≤ b) →
      (∀ A' : Around, A'.handled = none → Walks prog w A' I fp [I] vs.length (fun i v => vs[i]? = some v) St) → St 0 s'.heap → StrsAre vs ss' → ss'.Perm ss → (∀ v ∈ vs, TokB fb fn v) → Q (.ref I) s') :
    wpAny (model prog w) A (pyIter (.ref a)) Q E s := by
  obtain ⟨es, ep, t, S⟩ := hS
  have hT : s.TypeIs (.ref a) "set" := ⟨_, S.at_, rfl⟩
  have hlt := Heap.lt_size S.at_
  have hza : (setVs es).length = es.size := by rw [List.length_map, Array.length_toList]
  refine wpAny_pyIter_slot hT PySem.F.slot_set_iter (wpAny_call_entry PySem.F.slot_set_iter hT FS.entry_set_iter ?_ (PySem.F.args_set_iter_1 _))
  unfold Builtin.«frozenset.__iter__»
  refine wpAny_bind (m := Builtin.Frozenset.slot0 _ _) (wpAny_pure (a := a) ?_)
  refine wpAny_bind (m := Builtin.Frozenset.sizeOf a) ?_
  unfold Builtin.Frozenset.sizeOf
  refine wpAny_bind (wpAny_setEntries_of S.at_ rfl S.fits (wpAny_pure ?_))
  refine wpAny_bind (m := setDrawn a) ?_
  unfold setDrawn
  refine wpAny_bind (wpAny_setState_of S.at_ rfl S.fits ?_)
  dsimp only
  unfold setsByText
  refine wpAny_bind (wpAny_bind (wpAny_askSetting (wpAny_pure (wpAny_pure ?_))))
  have hfz : t.place.size = es.size := by
    have := S.fits
    simp only [SetTable.fits, Bool.and_eq_true, beq_iff_eq] at this
    exact this.1
  have fin : ∀ (vs : List Value), vs.Perm (setVs es) → ∃ ss', StrsAre vs ss' ∧ ss'.Perm ss := fun vs hp => strsAre_perm hp.symm S.txs
  have tbs : ∀ (vs : List Value), vs.Perm (setVs es) → ∀ v ∈ vs, TokB fb fn v := fun vs hp v hv => by
    obtain ⟨e, he, rfl⟩ := List.mem_map.mp (hp.mem_iff.mp hv)
    exact S.tb e he
  have hI : a ≠ s.heap.objs.size := Nat.ne_of_lt hlt
  cases hb : byTx w with
  | true =>
    have eb : ({ program := (model prog w).prog, params := (model prog w).w.params } : Setting).params.followText "set-order" = true := hb
    rw [eb]
    refine wpAny_bind (wpAny_pure (a := rawInt 0) ?_)
    refine wpAny_bind (wpAny_setEpoch_of S.at_ rfl S.fits (wpAny_bind (wpAny_newObj_type (wpAny_pure ?_))))
    have kp : ∀ b o, s.heap.get? b = some o → (s.heap.push (siRec (.int (0 : Nat) 0) 0 a es.size ep)).get? b = some o := fun b o e => Heap.get?_push_of_some _ e
    have hn : (s.heap.push (siRec (.int (0 : Nat) 0) 0 a es.size ep)).get? s.heap.objs.size = some (siRec (.int (0 : Nat) 0) 0 a es.size ep) := Heap.get?_push_size _ rfl
    have hpp : ((pickOrder (w.params.setOrder a ep) es).toList.map (·.2)).Perm (setVs es) := (pick_perm _ es).map _
    obtain ⟨ss', h1, h2⟩ := fin _ hpp
    exact ⟨_, rfl, "set_iterator", _, ⟨_, hn, rfl⟩, FS.slot_next.lookup, hQ _ _ _ _ ss' _ kp rfl rfl (Nat.le_refl _) (fun b hb => by
      rcases List.mem_cons.mp hb with z | z
      · exact .inr (Nat.le_of_eq z.symm)
      · exact .inl (List.mem_singleton.mp z)) (fun A' hh => walk_text (t := t) (ss := ss) hh hI hb) ⟨hn, S.keep fun o e => kp a o e⟩ h1 h2 (tbs _ hpp)⟩
  | false =>
    have eb : ({ program := (model prog w).prog, params := (model prog w).w.params } : Setting).params.followText "set-order" = false := hb
    rw [eb]
    split
    · rename_i hd
      refine wpAny_bind (wp_draw es.size (List.range es.size) s _ List.length_range.symm fun ps d hp => ?_)
      refine wpAny_bind (wpAny_newTuple ?_ (by rw [List.length_map, hp.length_eq, List.length_range]; exact fits_of_scanBound S.few))
      have k1 : ∀ b o, s.heap.get? b = some o → (s.heap.push { cls := .type "tuple", data := .seq (ps.map fun (p : Nat) => rawInt p).toArray }).get? b = some o := fun b o e => Heap.get?_push_of_some _ e
      have n1 : (s.heap.push { cls := .type "tuple", data := .seq (ps.map fun (p : Nat) => rawInt p).toArray }).get? s.heap.objs.size = some { cls := .type "tuple", data := .seq (ps.map fun (p : Nat) => rawInt p).toArray } := Heap.get?_push_size _ rfl
      have z1 : (s.heap.push { cls := .type "tuple", data := .seq (ps.map fun (p : Nat) => rawInt p).toArray }).objs.size = s.heap.objs.size + 1 := Heap.size_push ..
      generalize s.heap.push { cls := .type "tuple", data := .seq (ps.map fun (p : Nat) => rawInt p).toArray } = H1 at k1 n1 z1 ⊢
      have S1 : SetS prog w fb fn H1 a es ep t ss := S.keep fun o e => k1 a o e
      refine wpAny_bind (wpAny_setEpoch_of (s := { s with heap := H1, drawn := d }) S1.at_ rfl S1.fits (wpAny_bind (wpAny_newObj_type (wpAny_pure ?_))))
      have kp : ∀ b o, H1.get? b = some o → (H1.push (siRec (.ref s.heap.objs.size) 0 a es.size ep)).get? b = some o := fun b o e => Heap.get?_push_of_some _ e
      have hn : (H1.push (siRec (.ref s.heap.objs.size) 0 a es.size ep)).get? H1.objs.size = some (siRec (.ref s.heap.objs.size) 0 a es.size ep) := Heap.get?_push_size _ rfl
      have hpp : (ps.map fun p => (setVs es).getD p .none).Perm (setVs es) := by
        have := hp.map fun p => (setVs es).getD p .none
        have e := range_get Value.none (setVs es)
        rw [hza] at e
        rw [e] at this
        exact this
      obtain ⟨ss', h1, h2⟩ := fin _ hpp
      have ne1 : a ≠ H1.objs.size := by rw [z1]; exact Nat.ne_of_lt (Nat.lt_succ_of_lt hlt)
      have ne2 : s.heap.objs.size ≠ H1.objs.size := by rw [z1]; exact Nat.ne_of_lt (Nat.lt_succ_self _)
      exact ⟨_, rfl, "set_iterator", _, ⟨_, hn, rfl⟩, FS.slot_next.lookup, hQ _ H1.objs.size _ _ ss' _ (fun b o e => kp b o (k1 b o e)) rfl rfl (by rw [z1]; exact Nat.le_succ _) (fun b hb => by
        rcases List.mem_cons.mp hb with z | z
        · exact .inr (by rw [z, z1]; exact Nat.le_succ _)
        · rcases List.mem_cons.mp z with z | z
          · exact .inl z
          · exact .inr (Nat.le_of_eq (List.mem_singleton.mp z).symm)) (fun A' hh => walk_drawn (t := t) (ss := ss) hh ne1 ne2 ps (fun p hpm => List.mem_range.mp (hp.mem_iff.mp hpm))) ⟨hn, S1.keep fun o e => kp a o e, kp _ _ n1⟩ h1 h2 (tbs _ hpp)⟩
    · rename_i hd
      have hd' : ¬ (!false && (!t.plain && decide (es.size > 1))) = true := hd
      have hf1 : es.size ≤ 1 := by
        rcases S.pl with z | z
        · simp [z] at hd'
          omega
        · omega
      refine wpAny_bind (wpAny_pure (a := rawInt 0) ?_)
      refine wpAny_bind (wpAny_setEpoch_of S.at_ rfl S.fits (wpAny_bind (wpAny_newObj_type (wpAny_pure ?_))))
      have kp : ∀ b o, s.heap.get? b = some o → (s.heap.push (siRec (.int (0 : Nat) 0) 0 a es.size ep)).get? b = some o := fun b o e => Heap.get?_push_of_some _ e
      have hn : (s.heap.push (siRec (.int (0 : Nat) 0) 0 a es.size ep)).get? s.heap.objs.size = some (siRec (.int (0 : Nat) 0) 0 a es.size ep) := Heap.get?_push_size _ rfl
      exact ⟨_, rfl, "set_iterator", _, ⟨_, hn, rfl⟩, FS.slot_next.lookup, hQ _ _ _ _ ss _ kp rfl rfl (Nat.le_refl _) (fun b hb => by
        rcases List.mem_cons.mp hb with z | z
        · exact .inr (Nat.le_of_eq z.symm)
        · exact .inl (List.mem_singleton.mp z)) (fun A' hh => walk_few (t := t) (ss := ss) (ep := ep) hh hI hb hf1 hfz) ⟨hn, S.keep fun o e => kp a o e⟩ S.txs (.refl _) (tbs _ (.refl _))⟩
theorem collect_set {a : Addr} {ss : List Str} {Q : List Value → Shared → Prop} (hh : A.handled = none) (hS : SetAt prog w fb fn s.heap a ss)
    (hQ : ∀ s' (acc : Array Value) ss', (∀ b o, s.heap.get? b = some o → s'.heap.get? b = some o) → s'.gens = s.gens → s'.os = s.os → StrsAre acc.toList ss' → ss'.Perm ss → (∀ v ∈ acc.toList, TokB fb fn v) → Q acc.toList s') (hn : ss.length ≤ sizeLine) :
    wpAny (model prog w) A (collect (.ref a)) Q E s := by
  have hlt : a < s.heap.objs.size := let ⟨_, _, _, S⟩ := hS; Heap.lt_size S.at_
  unfold collect
  refine wpAny_bind (wpAny_runValue (codeAny_builtin PySem.F.entry_proto_collect ?_)); rw [Around.under_plainId PySem.F.plain_proto_collect _]
  change wpAny _ A.in1 (newList [] >>= fun l => again (.builtin "list.__iadd__" ⟨[l, .ref a], []⟩)) _ _ s
  refine wpAny_bind (wpAny_newObj_type ?_); refine wpAny_pure ⟨plainId_quiet PySem.F.plain_list_iadd _, codeAny_builtin PySem.F.entry_list_iadd ?_⟩
  rw [Around.under_plainId PySem.F.plain_list_iadd _]; change wpAny _ A.in1 (Builtin.List.listExtendWith (.ref s.heap.objs.size) (.ref a) (.ref s.heap.objs.size)) _ _ _
  unfold Builtin.List.listExtendWith
  have k0 : ∀ b o, s.heap.get? b = some o → (s.heap.push { cls := .type "list", data := .seq ([] : List Value).toArray }).get? b = some o := fun b o e => Heap.get?_push_of_some _ e
  have n0 : (s.heap.push { cls := .type "list", data := .seq ([] : List Value).toArray }).get? s.heap.objs.size = some { cls := .type "list", data := .seq ([] : List Value).toArray } := Heap.get?_push_size _ rfl
  have z0 : (s.heap.push { cls := .type "list", data := .seq ([] : List Value).toArray }).objs.size = s.heap.objs.size + 1 := Heap.size_push ..
  generalize s.heap.push { cls := .type "list", data := .seq ([] : List Value).toArray } = H0 at k0 n0 z0 ⊢
  have S0 : SetAt prog w fb fn H0 a ss := hS.keep fun o e => k0 a o e
  have hT : ∀ (s' : Shared), SetAt prog w fb fn s'.heap a ss → s'.TypeIs (.ref a) "set" := fun s' ⟨_, _, _, S⟩ => ⟨_, S.at_, rfl⟩
  refine wpAny_bind (wpAny_typeOf (hT { s with heap := H0 } S0) ?_)
  have g1 : Builtin.List.listSameRef (.ref s.heap.objs.size) (.ref a) = false := by simp [Builtin.List.listSameRef, Nat.ne_of_gt hlt]
  have g2 : (Value.type "set" == Value.type "list") = false := by decide
  have g3 : (Value.type "set" == Value.type "tuple") = false := by decide
  simp only [g1, g2, g3, Bool.or_false, Bool.false_eq_true, if_false]
  refine wpAny_bind (iter_set (s := { s with heap := H0 }) S0 fun s1 I fp vs ss' St kp hg ho hI hfp W st h1 h2 htb => ?_)
  have S1 : SetAt prog w fb fn s1.heap a ss := S0.keep fun o e => kp a o e
  have hvl : vs.length = ss.length := by rw [strsAre_len h1, h2.length_eq]
  refine wpAny_bind (wpAny_holding ?_); unfold Builtin.List.listLengthHint
  refine wpAny_bind (wpAny_specialOf (hT s1 S1) FS.set_len ?_)
  wp_delta
  refine wpAny_bind (wpAny_isInstance (hT s1 S1) (b := true) (by rw [isSubtype_type]; kernel_rfl) ?_)
  change wpAny _ A.in1 (typeOf (Value.ref a) >>= _) _ _ _
  refine wpAny_bind (wpAny_typeOf (hT s1 S1) ?_)
  refine wpAny_pure ?_; rw [if_pos (by decide)]
  have hSf : s.heap.objs.size ∉ fp := fun z => by
    rcases hfp _ z with e | e
    · exact absurd hlt (e ▸ Nat.lt_irrefl _)
    · have e' : s.heap.objs.size + 1 ≤ s.heap.objs.size := z0 ▸ e
      exact absurd e' (Nat.not_succ_le_self _)
  have n1 := kp _ _ n0
  refine wpAny_bind (wpAny_rule (wpAny_bind ?_)); change wpAny _ A.in1 (updateSeq s.heap.objs.size (·.push .none) >>= fun _ => updateSeq s.heap.objs.size (·.pop)) _ _ _
  refine wpAny_bind (wpAny_updateSeq n1 rfl ?_)
  have n2 := Heap.get?_update_self (Obj.mapSeq (·.push Value.none)) n1 rfl
  refine wpAny_updateSeq n2 rfl ?_
  have n3 := Heap.get?_update_self (Obj.mapSeq (·.pop)) n2 rfl
  have oth : ∀ b o, b ≠ s.heap.objs.size → s1.heap.get? b = some o → ((s1.heap.update s.heap.objs.size (Obj.mapSeq (·.push Value.none))).update s.heap.objs.size (Obj.mapSeq (·.pop))).get? b = some o := fun b o hb e => (Heap.get?_update_other _ _ (Ne.symm hb)).trans ((Heap.get?_update_other _ _ (Ne.symm hb)).trans e)
  have st2 := (W A.in1 hh).frame 0 _ _ st fun b hb o e => oth b o (fun z => hSf (z ▸ hb)) e
  refine wpAny_pure ⟨plainId_quiet PySem.F.plain_extend_loop _, codeAny_extend_loopS (W A.in1 hh).toS (by rw [hvl]; exact hn) _ hSf _ vs.length 0 _ _ _ rfl (Nat.zero_le _) st2 n3 (ItemsOf.nil _) fun s' acc' c' hm hS' hacc => ?_⟩
  change wpAny _ A (load s.heap.objs.size >>= _) _ _ s'
  refine wpAny_bind (wpAny_load hS' ?_)
  have ev : acc'.toList = vs := by
    apply List.ext_getElem?
    intro j
    by_cases hj : j < acc'.size
    · rw [Array.getElem?_toList]
      have e := Array.getElem?_eq_getElem hj
      rw [e]
      exact (hacc.2 j _ e).symm
    · rw [List.getElem?_eq_none (by rw [Array.length_toList]; omega), List.getElem?_eq_none (by rw [hacc.1] at hj; omega)]
  refine wpAny_pure (hQ s' acc' ss' (fun b o e => hm.heap b o (fun hb => ?_) (oth b o (Nat.ne_of_lt (Heap.lt_size e)) (kp b o (k0 b o e)))) (hm.gens.trans hg) (hm.os.trans ho) (by rw [ev]; exact h1) h2 (by rw [ev]; exact htb))
  have hlb := Heap.lt_size e
  rcases List.mem_cons.mp hb with z | z
  · exact absurd hlb (z ▸ Nat.lt_irrefl _)
  · rw [List.mem_singleton.mp z] at hlb
    have e' : s.heap.objs.size + 1 ≤ I := z0 ▸ hI
    exact absurd hlb (Nat.not_lt.mpr (Nat.le_of_succ_le e'))
end
end L2
namespace L2
open PySem PySem.Spec PyProof.Rows
section
variable {prog : Program} {w : World} {A : Around} {E : Value → Shared → Prop} {s : Shared} {fb : Bool} {fn : Nat}
theorem sorted_set {a : Addr} {ss : List Str} {Q : Value → Shared → Prop} (hh : A.in1.handled = none) (hS : SetAt prog w fb fn s.heap a ss) (h64 : ss.length < 64)
    (h : ∀ (s' : Shared) (h' : Heap) (out : Array Value) (ss' : List Str) e, (∀ b o, s.heap.get? b = some o → s'.heap.get? b = some o) → s'.gens = s.gens → s'.os = s.os → (∀ b o, s'.heap.get? b = some o → h'.get? b = some o) → h'.get? s'.heap.objs.size = some (seqObj "list" out e) →
      StrsAre out.toList ss' → ss'.Perm ss → sortedS ss' = true → (∀ v ∈ out.toList, TokB fb fn v) → Q (.ref s'.heap.objs.size) { s' with heap := h' }) :
    wpAny (model prog w) A (call (.builtin "sorted") [.ref a]) Q E s := by
  refine Calls.call_function_entry kind_sorted plain_sorted entry_sorted (args_sorted1 _) ?_
  unfold Builtin.«sorted»
  refine wpAny_bind (m := checkCount "sorted" 1 1 _) (wpAny_pure ?_)
  refine wpAny_bind (collect_set hh hS (fun s' acc s1 kp hg hos hS1 p1 htb => ?_) (by rw [sizeLine_eq]; omega))
  have hl : acc.toList.length = ss.length := by rw [strsAre_len hS1, p1.length_eq]
  refine wpAny_bind (wpAny_newList ?_ (by rw [sizeLine_eq]; omega))
  have hoL : (s'.heap.push (seqObj "list" acc.toList.toArray 0)).get? s'.heap.objs.size = some (seqObj "list" acc.toList.toArray 0) := Heap.get?_push_size _ rfl
  refine wpAny_bind (wpAny_holding (wpAny_call_entry slot_list_sort ⟨_, hoL, rfl⟩ entry_list_sort (list_sort_treeK strKind_oneLt hoL hS1.keysOf (fun v₁ v₂ rest e => keyKind_strs (by rw [← e]; exact hS1)) (by omega) fun st' a1 a2 => ⟨_, rfl, ?_⟩) (args_list_sort _)))
  obtain ⟨ss', h1, h2, h3⟩ := sorted_out_str hS1 a1 a2
  obtain ⟨e, he⟩ := sortedHeap_at (out := (arrOf st').map (·.2)) hoL
  refine wpAny_pure ⟨_, rfl, h s' _ _ ss' e kp hg hos (fun b o q => ?_) he h1 (h2.trans p1) h3 fun v hv => ?_⟩
  · have hlt := Heap.lt_size q
    rw [sortedHeap_old (Nat.ne_of_lt hlt) (by rw [size_push']; exact Nat.lt_succ_of_lt hlt), Heap.get?_push_ne _ _ _ (Nat.ne_of_lt hlt)]
    exact q
  · rw [Array.toList_map] at hv
    obtain ⟨p, hp, rfl⟩ := List.mem_map.mp hv
    have hz := (Array.perm_iff_toList_perm.mp a1).mem_iff.mp hp
    rw [pairsOf_toList] at hz
    exact htb _ (List.of_mem_zip hz).2
theorem sw_text (hh : A.handled = none) (I : Addr) (x : Str) (t : Tok) (ty : String) (hty : ty = "str_ascii_iterator" ∨ ty = "str_iterator") :
    SW prog w A I [I] [I] x.cps.size (fun i => ⟨#[x.cps.getD i 0]⟩) true (fun i s => s.heap.IsStrIter I ty x t i) where
  sub := fun _ hb => hb
  frame := fun i s h' tk st _ hk => let ⟨o, ho, r⟩ := st; ⟨o, hk I (.head _) o ho, r⟩
  item := fun i s Q E hi st hQ => by
    have hx : x.cps[i]? = some (x.cps.getD i 0) := by simp [hi]
    have go : ∀ h' : Heap, h'.IsStrIter I ty x t (i + 1) → Heap.SameBut I s.heap h' → Q (some (.str ⟨#[x.cps.getD i 0]⟩ s.toks)) { s with heap := h', toks := s.toks + 1 } := fun h' hit' sb =>
      hQ s.toks _ (fun _ => ⟨Nat.le_refl _, Nat.lt_succ_self _⟩) hit' ⟨fun b o hb e => (sb.2 b (fun z => hb (z ▸ .head _))).trans e, rfl, rfl, rfl, Nat.le_succ _⟩
    rcases hty with rfl | rfl
    · exact wpAny_pyNext_ascii_item st hx go
    · exact wpAny_pyNext_wide_item st hx go
  done := fun s Q E st hQ => by
    have hx : x.cps[x.cps.size]? = none := by simp
    have go : ∀ h' : Heap, Heap.ExtBut I s.heap h' → Q none { s with heap := h' } := fun h' ex => hQ _ ⟨fun b o hb e => ex b o (fun z => hb (z ▸ .head _)) e, rfl, rfl, rfl, Nat.le_refl _⟩
    rcases hty with rfl | rfl
    · exact wpAny_pyNext_ascii_end hh st hx go
    · exact wpAny_pyNext_wide_end hh st hx go
end
def HSet (P : Program) (w : World) (f : Bool) (n : Nat) (a : Addr) (ss : List Str) : HO := .ext fun h => SetAt P w f n h a ss
def Hp.bump (H : Hp) (n : Nat) : Hp := ⟨H.fn, n⟩
theorem same_bump {H : Hp} {n : Nat} (h : H.clk ≤ n) : Same H (H.bump n) := ⟨fun _ _ q => q, h⟩
section
variable {X : Cx} {pins : List (Addr × Obj)} {σ : St} {H : Hp} {s : Shared}
theorem Inv.bump {n : Nat} (I : Inv X pins σ H s) (h : n ≤ s.toks) : Inv X pins σ (H.bump n) s :=
  ⟨I.ok, I.os, ⟨I.bare.1, h⟩, ⟨I.base.keep, I.base.slot, I.base.free, I.base.there, I.base.tups, I.base.frzs, I.base.tbls⟩, I.loc, I.cell, I.free, I.freeC, I.pin,
    fun a o e => (I.hok a o e).stay (fun _ _ _ q => q) (fun _ q => q) (fun _ _ q => q), I.len⟩
theorem hset_ok {P : Program} {w : World} {H : Hp} {h : Heap} {a : Addr} {ss : List Str} {f : Bool} {n : Nat} (S : SetAt P w f n h a ss) : ObjOk P w H h a (HSet P w f n a ss) :=
  ⟨S, let ⟨_, _, _, Z⟩ := S; ⟨_, Z.at_⟩, fun _ _ S1 k => SetAt.keep S1 k⟩
theorem Inv.kept' {s' : Shared} (I : Inv X pins σ H s) (k : ∀ b u, s.heap.get? b = some u → s'.heap.get? b = some u) (hg : s'.gens = s.gens) (ho : s'.os = s.os) (ht : s.toks ≤ s'.toks) : Inv X pins σ H s' :=
  I.call' (ch := []) ho (Un.kept k) (I.hok.kept k) ⟨by rw [hg]; exact I.bare.1, Nat.le_trans I.bare.2 ht⟩ (fun _ z => nomatch z)
theorem SetAt.nodup {P : Program} {w : World} {h : Heap} {a : Addr} {ss : List Str} {f : Bool} {n : Nat} (S : SetAt P w f n h a ss) : ss.Nodup := let ⟨_, _, _, Z⟩ := S; Z.nd
def rSetT (P : Program) (w : World) : List V → Hp → VK → Prop := fun xs H Q => ∃ x : Str, xs = [.str x] ∧ x.length ≤ 4000 ∧ 1 ≤ H.clk ∧
  ∀ p ss n, H p = none → H.clk ≤ n → ss.Nodup → ss.length ≤ x.length → (∀ y, y ∈ ss ↔ ∃ c, c ∈ x.cps.toList ∧ ⟨#[c]⟩ = y) → Q (.ref p) ((upd H p (HSet P w true n p ss)).bump n)
theorem c_setT (hc : X.calm = true) : CallR X (.type "set") (rSetT X.prog X.w) := by
  intro pins s σ H xs us Q I r h
  obtain ⟨x, rfl, hz, h1, q⟩ := h
  obtain ⟨u, rfl, t, rfl⟩ := vals1 r
  have hn : x.cps.size + 1 < scanBound := by
    have : x.cps.size ≤ 4000 := hz
    show _ < 4096
    omega
  refine wpAny_with_toks (Nat.le_refl _) (set_of (T := "str") (n := x.cps.size) true (I.ok.hd hc) hn (fun i => ⟨#[x.cps.getD i 0]⟩) (fun _ => Nat.le_trans h1 I.bare.2)
    (fun h' _ => rfl) PySem.F.sub_str_set PySem.F.sub_str_frozenset (by decide) (fun A' h' K E' kp k => ?_) fun h' tk ss kp S l m htk => ?_)
  · cases ha : x.cps.all (· < 128)
    · exact wpAny_pyIter_wide ha (k _ _ _ _ (fun b hb => .inl (List.mem_singleton.mp hb)) (fun b hb => List.mem_singleton.mp hb) (fun A' hA => sw_text hA _ x t "str_iterator" (.inr rfl)) ⟨_, Heap.get?_push_size _ rfl, rfl, rfl⟩)
    · exact wpAny_pyIter_ascii ha (k _ _ _ _ (fun b hb => .inl (List.mem_singleton.mp hb)) (fun b hb => List.mem_singleton.mp hb) (fun A' hA => sw_text hA _ x t "str_ascii_iterator" (.inl rfl)) ⟨_, Heap.get?_push_size _ rfl, rfl, rfl⟩)
  · have htk : s.toks ≤ tk := htk
    have I1 : Inv X pins σ (upd H s.heap.objs.size (HSet X.prog X.w true tk s.heap.objs.size ss)) { s with heap := h', toks := tk } := I.laid kp (Nat.le_refl _) (hset_ok S) htk
    refine ⟨.ref s.heap.objs.size, _, I1.bump (n := tk) (Nat.le_refl _), rfl, q _ ss tk (I.hok.fresh (Nat.le_refl _)) (Nat.le_trans I.bare.2 htk) S.nodup l fun y => ?_⟩
    rw [m]
    constructor
    · rintro ⟨j, hj, e⟩
      exact ⟨x.cps[j], by simp, by rw [← e]; simp [Array.getD_eq_getD_getElem?, hj]⟩
    · rintro ⟨c, hc, e⟩
      obtain ⟨j, hj, e2⟩ := List.getElem_of_mem hc
      rw [Array.length_toList] at hj
      exact ⟨j, hj, by rw [← e]; rw [Array.getElem_toList] at e2; simp [Array.getD_eq_getD_getElem?, hj, e2]⟩
theorem vals_olds {n : Nat} : ∀ {us : List Value} {ss : List Str}, StrsAre us ss → (∀ v ∈ us, TokB true n v) → Vals (ss.map fun x => V.old x 1 n) us
  | _, _, .nil, _ => .nil
  | _, _, .cons y t r, h => .cons ⟨t, rfl, (h _ (.head _) rfl y t rfl).1, (h _ (.head _) rfl y t rfl).2⟩ (vals_olds r fun v hv => h v (.tail _ hv))
def rSortedU (P : Program) (w : World) : List V → Hp → VK → Prop := fun xs H Q => ∃ p ss n, xs = [.ref p] ∧ H p = some (HSet P w true n p ss) ∧ ss.length < 64 ∧
  ∀ l ss', H l = none → ss'.Perm ss → sortedS ss' = true → Q (.ref l) (upd H l (.lst (ss'.map fun x => V.old x 1 n)))
theorem c_sortedU (hc : X.calm = true) : CallR X (.builtin "sorted") (rSortedU X.prog X.w) := by
  intro pins s σ H xs us Q I r h
  obtain ⟨p, ss, n, rfl, hp, h64, q⟩ := h
  obtain ⟨u, rfl, rx⟩ := vals1 r
  cases rx
  have S : SetAt X.prog X.w true n s.heap p ss := (I.hok p _ hp).1
  refine wpAny_with_toks (Nat.le_refl _) (sorted_set (I.ok.hd hc) S h64 fun s' h' out ss' e kp hg hos kp2 he h1 h2 h3 htb htk => ?_)
  have htk : s.toks ≤ s'.toks := htk
  have hlen : ss'.length ≤ sizeLine := by
    rw [h2.length_eq, sizeLine_eq]
    omega
  have I1 : Inv X pins σ H s' := I.kept' kp hg hos htk
  have I2 : Inv X pins σ (upd H s'.heap.objs.size (.lst (ss'.map fun x => V.old x 1 n))) { s' with heap := h' } :=
    I1.laid (t' := s'.toks) kp2 (Nat.le_refl _) ⟨by rw [List.length_map]; exact hlen, out.toList, e, vals_olds h1 htb, by rw [Array.toArray_toList]; exact he⟩
  exact ⟨.ref s'.heap.objs.size, _, I2, rfl, q _ ss' (I1.hok.fresh (Nat.le_refl _)) h2 h3⟩
end
end L2
namespace L2
open PySem PySem.Spec PyProof.Rows
def wk : V → V
  | .old x _ _ => .str x
  | v => v
theorem RelV.wk {v : V} {u : Value} (r : RelV v u) : RelV (wk v) u := by
  cases v with
  | old x a n =>
    obtain ⟨t, e, _⟩ := r
    exact ⟨t, e⟩
  | _ => exact r
section
variable {X : Cx}
def tWk (te : TE) : TE := fun σ H Q => te σ H fun v H' => Q (wk v) H'
theorem qe_wk {e : Expr} {te : TE} (h : QE X e te) : QE X e (tWk te) := ⟨fun pins s σ H Q I q => thn (h.h pins s σ H _ I q) fun _ _ ⟨v, H', I', r, q'⟩ => ⟨L2.wk v, H', I', r.wk, q'⟩⟩
def tNew (x : Str) : TE := fun _ H Q => ∀ n, H.clk ≤ n → Q (.old x n (n + 1)) (H.bump (n + 1))
theorem qe_new {x : Str} {j pos} : QE X (.Constant (.str x) j pos) (tNew x) := ⟨fun pins s σ H Q I q => Calls.Constant_str ⟨.old x s.toks (s.toks + 1), _, (I.tok (s.toks + 1)).bump (n := s.toks + 1) (Nat.le_refl _), ⟨s.toks, rfl, Nat.le_refl _, Nat.lt_succ_self _⟩, q s.toks I.bare.2⟩⟩
def tBump (x : Str) : TE := fun _ H Q => ∀ n, H.clk ≤ n → 1 ≤ n → Q (.str x) (H.bump n)
theorem qe_bump {x : Str} {j pos} : QE X (.Constant (.str x) j pos) (tBump x) := ⟨fun pins s σ H Q I q => Calls.Constant_str ⟨.str x, _, (I.tok (s.toks + 1)).bump (n := s.toks + 1) (Nat.le_refl _), ⟨_, rfl⟩, q (s.toks + 1) (Nat.le_succ_of_le I.bare.2) (Nat.le_add_left _ _)⟩⟩
def rFind : V → List V → Hp → VK → Prop := fun x vs H Q => ∃ (p q : List Nat) (c : Nat), x = .str ⟨(p ++ c :: q).toArray⟩ ∧ vs = [.str ⟨#[c]⟩] ∧ c ∉ p ∧ Q (.int p.length) H
theorem mt_find : MtR X "str.find" rFind := by
  intro pins s σ H x vs v us Q I rx rv h
  obtain ⟨p, q, c, rfl, rfl, hp, k⟩ := h
  obtain ⟨t, rfl⟩ := rx
  obtain ⟨u, rfl, t', rfl⟩ := vals1 rv
  refine SC.find ?_
  have e : Txt.find (⟨(p ++ c :: q).toArray⟩ : Str) ⟨#[c]⟩ = (p.length : Int) := by
    unfold Txt.find
    rw [occ_one hp]
  rw [e]
  exact ⟨.int p.length, H, I.tok _, ⟨_, rfl⟩, k⟩
theorem glue_cut (p q : List Nat) (c : Nat) : Builtin.Str.glued ⟨#[]⟩ (Builtin.Str.partsBetween (⟨(p ++ c :: q).toArray⟩ : Str) [p.length] 1) = ⟨(p ++ q).toArray⟩ := by
  unfold Builtin.Str.partsBetween Builtin.Str.glued Builtin.Str.strSub
  have e : (⟨(p ++ c :: q).toArray⟩ : Str).length = p.length + (q.length + 1) := by simp [Str.length]
  simp [e, List.extract_eq_take_drop]
  exact List.take_of_length_le (by omega)
theorem vals3 {x y z : V} {us : List Value} (r : Vals [x, y, z] us) : ∃ a b c, us = [a, b, c] ∧ RelV x a ∧ RelV y b ∧ RelV z c := by
  cases r with
  | cons r1 r2 =>
    cases r2 with
    | cons r3 r4 =>
      cases r4 with
      | cons r5 r6 => cases r6; exact ⟨_, _, _, rfl, r1, r3, r5⟩
def rCut : V → List V → Hp → VK → Prop := fun x vs H Q => ∃ (p q : List Nat) (c a m n k : Nat), x = .str ⟨(p ++ c :: q).toArray⟩ ∧ vs = [.old ⟨#[c]⟩ a m, .old ⟨#[]⟩ n k, .int 1] ∧ 1 ≤ a ∧ m ≤ n ∧ 1 ≤ n ∧ c ∉ p ∧ (p ++ c :: q).length ≤ 1000 ∧ Q (.str ⟨(p ++ q).toArray⟩) H
theorem mt_cut : MtR X "str.replace" rCut := by
  intro pins s σ H x vs v us Q I rx rv h
  obtain ⟨p, q, c, a, m, n, k, rfl, rfl, ha, hmn, hn, hp, hz, kk⟩ := h
  obtain ⟨t, rfl⟩ := rx
  obtain ⟨v1, v2, v3, rfl, ⟨u, rfl, hu1, hu2⟩, ⟨z, rfl, hz1, hz2⟩, ⟨ti, rfl⟩⟩ := vals3 rv
  have hlen : (⟨(p ++ c :: q).toArray⟩ : Str).length = (p ++ c :: q).length := by simp [Str.length]
  have hu0 : u ≠ 0 := Nat.ne_of_gt (Nat.lt_of_lt_of_le Nat.zero_lt_one (Nat.le_trans ha hu1))
  have hz0 : z ≠ 0 := Nat.ne_of_gt (Nat.lt_of_lt_of_le Nat.zero_lt_one (Nat.le_trans hn hz1))
  have huz : u ≠ z := Nat.ne_of_lt (Nat.lt_of_lt_of_le hu2 (Nat.le_trans hmn hz1))
  have g : Gives (Builtin.«str.replace» ⟨[.str ⟨(p ++ c :: q).toArray⟩ t, .str ⟨#[c]⟩ u, .str ⟨#[]⟩ z, .int 1 ti], []⟩) (.str ⟨(p ++ q).toArray⟩) := by
    show Gives (if ((Builtin.Str.occurrences (⟨(p ++ c :: q).toArray⟩ : Str) ⟨#[c]⟩ 0 (⟨(p ++ c :: q).toArray⟩ : Str).length 1).isEmpty || ((⟨#[c]⟩ : Str).length == 0 && (⟨#[]⟩ : Str).length == 0)) = true then (do rule "str.replace.nothing"; ret (.str ⟨(p ++ c :: q).toArray⟩ t)) else
          (do let same ← isSame (.str ⟨#[c]⟩ u) (.str ⟨#[]⟩ z)
              if same = true then (do rule "str.replace.old-is-new"; ret (.str ⟨(p ++ c :: q).toArray⟩ t)) else
              if Builtin.Str.tooLong ((⟨(p ++ c :: q).toArray⟩ : Str).length + (Builtin.Str.occurrences (⟨(p ++ c :: q).toArray⟩ : Str) ⟨#[c]⟩ 0 (⟨(p ++ c :: q).toArray⟩ : Str).length 1).length * (⟨#[]⟩ : Str).length) = true then unsupported "str.replace:memory" else
              retStr (Builtin.Str.glued ⟨#[]⟩ (Builtin.Str.partsBetween (⟨(p ++ c :: q).toArray⟩ : Str) (Builtin.Str.occurrences (⟨(p ++ c :: q).toArray⟩ : Str) ⟨#[c]⟩ 0 (⟨(p ++ c :: q).toArray⟩ : Str).length 1) (⟨#[c]⟩ : Str).length)))) _
    rw [occ_one hp, isSame_str_other _ _ u z (by simp [hu0, hz0]) (by simp [huz]) (by rfl)]
    have e1 : (([p.length] : List Nat).isEmpty || ((⟨#[c]⟩ : Str).length == 0 && (⟨#[]⟩ : Str).length == 0)) = false := rfl
    rw [e1]
    have e2 : Builtin.Str.tooLong ((⟨(p ++ c :: q).toArray⟩ : Str).length + ([p.length] : List Nat).length * (⟨#[]⟩ : Str).length) = false := by
      rw [hlen]
      unfold Builtin.Str.tooLong
      have : (⟨#[]⟩ : Str).length = 0 := rfl
      rw [this, Nat.mul_zero, Nat.add_zero, sizeLine_eq]
      exact decide_eq_false (by omega)
    have e3 : (⟨#[c]⟩ : Str).length = 1 := rfl
    rw [e3, glue_cut]
    refine .of_eq ?_
    show (if Builtin.Str.tooLong ((⟨(p ++ c :: q).toArray⟩ : Str).length + ([p.length] : List Nat).length * (⟨#[]⟩ : Str).length) = true then unsupported "str.replace:memory" else retStr ⟨(p ++ q).toArray⟩) = _
    rw [e2]
    rfl
  have hz' : (⟨(p ++ q).toArray⟩ : Str).length ≤ sizeLine := by
    have : (p ++ q).length ≤ 1000 := by rw [List.length_append] at hz ⊢; rw [List.length_cons] at hz; omega
    simp only [Str.length, List.size_toArray]
    rw [sizeLine_eq]
    omega
  exact call_gives F.slot_str_replace (typeIs_str _ _ _) F.entry_str_replace (F.args_str_replace_4 _ _ _ _) g ⟨hz', .str ⟨(p ++ q).toArray⟩, H, I.tok _, ⟨_, rfl⟩, kk⟩
end
end L2
namespace HW
open PySem L2 PyProof.Rows
abbrev S (l : List Nat) : Str := ⟨l.toArray⟩
theorem S_cps (l : List Nat) : (S l).cps.toList = l := by simp
theorem S_len (l : List Nat) : (S l).length = l.length := by simp [Str.length]
theorem S_nil : (S []).length = 0 := rfl
theorem filter_yes {α : Type} (l : List α) : (l.filter fun _ => true) = l := List.filter_eq_self.mpr fun _ _ => rfl
theorem S_inj {a b : List Nat} (h : S a = S b) : a = b := by
  have := congrArg (fun x : Str => x.cps.toList) h
  simpa using this
theorem S_app (a b : List Nat) : S a ++ S b = S (a ++ b) := by
  show (⟨a.toArray ++ b.toArray⟩ : Str) = _
  simp
abbrev chV (c : Nat) : V := .str (S [c])
abbrev tx (l : List Nat) : V := .str (S l)
theorem signsV_S (l : List Nat) : signsV (S l) = l.map chV := by
  unfold signsV
  rw [S_cps]
theorem join_fold : ∀ (r : List (List Nat)) (acc : List Nat), ((r.map S).foldl (fun (a : Array Nat) (p : Str) => a ++ (S []).cps ++ p.cps) acc.toArray) = (acc ++ r.flatten).toArray
  | [], acc => by simp
  | x :: r, acc => by
    have e : acc.toArray ++ (S []).cps ++ (S x).cps = (acc ++ x).toArray := by simp
    rw [List.map_cons, List.foldl_cons, e, join_fold r (acc ++ x), List.flatten_cons, List.append_assoc]
theorem join_S (ls : List (List Nat)) : Txt.join (S []) (ls.map S) = S ls.flatten := by
  cases ls with
  | nil => rfl
  | cons x r =>
    show (⟨((List.map S (x :: r)).drop 1).foldl (fun a p => a ++ (S []).cps ++ p.cps) ((List.map S (x :: r)).headD Str.empty).cps⟩ : Str) = _
    have e : (((x :: r).map S).drop 1) = r.map S := rfl
    have e2 : (((x :: r).map S).headD Str.empty).cps = x.toArray := rfl
    rw [e, e2, join_fold r x, List.flatten_cons]
theorem flat_one (l : List Nat) : (l.map fun c => [c]).flatten = l := by
  induction l with
  | nil => rfl
  | cons x l ih => rw [List.map_cons, List.flatten_cons, ih]; rfl
theorem join_signs (l : List Nat) : Txt.join (S []) (l.map fun c => S [c]) = S l := by
  have e : (l.map fun c => S [c]) = (l.map fun c => [c]).map S := by rw [List.map_map]; rfl
  rw [e, join_S, flat_one]
theorem sum_signs (l : List Nat) : ((l.map fun c => S [c]).map (·.length)).sum = l.length := by
  induction l with
  | nil => rfl
  | cons x l ih =>
    rw [List.map_cons, List.map_cons, List.sum_cons, ih, List.length_cons, S_len]
    simp
    omega
def abc : List Nat := List.range' 97 26
theorem abc_nodup : abc.Nodup := by decide
theorem abc_az : ∀ c ∈ abc, 97 ≤ c ∧ c ≤ 122 := by decide
theorem pop_perm {α : Type} : ∀ {l : List α} {k : Nat} {y : α}, l[k]? = some y → (l.eraseIdx k ++ [y]).Perm l
  | [], _, _, h => by cases h
  | x :: l, 0, y, h => by
    have : x = y := by simpa using h
    subst this
    exact (List.perm_append_singleton x l)
  | x :: l, k + 1, y, h => by
    have h' : l[k]? = some y := by simpa using h
    rw [List.eraseIdx_cons_succ, List.cons_append]
    exact (pop_perm h').cons x
theorem risingS_codes : ∀ (l : List Nat) (p : Nat), risingS (S [p]) (l.map fun c => S [c]) = true → (∀ c ∈ l, p ≤ c) ∧ l.Pairwise (· ≤ ·)
  | [], _, _ => ⟨(fun _ h => by cases h), List.Pairwise.nil⟩
  | x :: l, p, h => by
    have h' : (!Spec.ltCps (S [x]).cps.toList (S [p]).cps.toList && risingS (S [x]) (l.map fun c => S [c])) = true := h
    rw [Bool.and_eq_true] at h'
    obtain ⟨i1, i2⟩ := risingS_codes l x h'.2
    have hpx : p ≤ x := by
      have q := h'.1
      rw [S_cps, S_cps] at q
      simp [Spec.ltCps] at q
      omega
    refine ⟨fun c hc => ?_, List.pairwise_cons.mpr ⟨i1, i2⟩⟩
    rcases List.mem_cons.mp hc with z | z
    · omega
    · have := i1 c z
      omega
theorem sortedS_codes : ∀ (l : List Nat), sortedS (l.map fun c => S [c]) = true → l.Pairwise (· ≤ ·)
  | [], _ => List.Pairwise.nil
  | x :: l, h => by
    obtain ⟨i1, i2⟩ := risingS_codes l x h
    exact List.pairwise_cons.mpr ⟨i1, i2⟩
theorem strict_of {l : List Nat} (h : l.Pairwise (· ≤ ·)) (n : l.Nodup) : l.Pairwise (· < ·) := by
  induction l with
  | nil => exact List.Pairwise.nil
  | cons x l ih =>
    obtain ⟨h1, h2⟩ := List.pairwise_cons.mp h
    obtain ⟨n1, n2⟩ := List.nodup_cons.mp n
    refine List.pairwise_cons.mpr ⟨fun c hc => ?_, ih h2 n2⟩
    have a := h1 c hc
    have b : x ≠ c := fun e => n1 (e ▸ hc)
    omega
theorem sorted_codes {fd : List Nat} {ss' : List Str} (hp : ss'.Perm (fd.map fun c => S [c])) (hs : sortedS ss' = true) (nd : fd.Nodup) : ∃ L : List Nat, ss' = (L.map fun c => S [c]) ∧ L.Perm fd ∧ L.Pairwise (· < ·) := by
  have hm : ∀ x ∈ ss', x = S [x.cps.toList.headD 0] := fun x hx => by
    obtain ⟨c, _, e⟩ := List.mem_map.mp (hp.mem_iff.mp hx)
    rw [← e]
    rfl
  have e : ss' = ((ss'.map fun x => x.cps.toList.headD 0).map fun c => S [c]) := by
    rw [List.map_map]
    have q : ss'.map (fun x => x) = ss'.map ((fun c => S [c]) ∘ fun x => x.cps.toList.headD 0) := List.map_congr_left hm
    rw [List.map_id'] at q
    exact q
  have hp2 : (ss'.map fun x => x.cps.toList.headD 0).Perm fd := by
    have q := hp.map fun x : Str => x.cps.toList.headD 0
    rw [List.map_map] at q
    have : (fd.map ((fun x : Str => x.cps.toList.headD 0) ∘ fun c => S [c])) = fd := by
      have : ((fun x : Str => x.cps.toList.headD 0) ∘ fun c => S [c]) = id := by funext c; rfl
      rw [this, List.map_id]
    rw [this] at q
    exact q
  refine ⟨_, e, hp2, ?_⟩
  rw [e] at hs
  exact strict_of (sortedS_codes _ hs) (hp2.nodup_iff.mpr nd)
structure Letters (L : List Nat) : Prop where
  l1 : 1 ≤ L.length
  l5 : L.length ≤ 5
  up : L.Pairwise (· < ·)
  az : ∀ c ∈ L, 97 ≤ c ∧ c ≤ 122
structure Ground (L : List Nat) (T : List (List Nat)) : Prop where
  le : Letters L
  ti : ∀ q ∈ T, ∃ a b, q = [a, b] ∧ a < b ∧ a ∈ L ∧ b ∈ L
  tu : T.Pairwise (· < ·)
  tl : T.length ≤ 25
def GAt (H : Hp) (g : Addr) (L : List Nat) (T : List (List Nat)) : Prop := ∃ a, H g = some (.tup [tx L, .ref a]) ∧ H a = some (.tup (T.map tx)) ∧ 1 ≤ H.clk
theorem GAt.same {H H' : Hp} {g : Addr} {L : List Nat} {T : List (List Nat)} (h : GAt H g L T) (e : Same H H') : GAt H' g L T := by
  obtain ⟨a, h1, h2, h3⟩ := h
  exact ⟨a, e _ _ h1, e _ _ h2, Nat.le_trans h3 e.ck⟩
theorem GAt.ck {H : Hp} {g : Addr} {L : List Nat} {T : List (List Nat)} (h : GAt H g L T) : 1 ≤ H.clk := let ⟨_, _, _, h3⟩ := h; h3
def tiedB (T : List (List Nat)) (a b : Nat) : Bool := decide (a = b) || decide ([min a b, max a b] ∈ T)
theorem tied_two {L : List Nat} {T : List (List Nat)} (G : Ground L T) (a b : Nat) : (decide (a = b) || (decide ([a, b] ∈ T) || decide ([b, a] ∈ T))) = tiedB T a b := by
  unfold tiedB
  by_cases e : a = b
  · rw [decide_eq_true e]; rfl
  · rw [decide_eq_false e, Bool.false_or, Bool.false_or]
    have no : ∀ x y, y < x → [x, y] ∉ T := fun x y h m => by
      obtain ⟨a', b', e1, h1, _⟩ := G.ti _ m
      cases e1
      omega
    rcases Nat.lt_or_gt_of_ne e with h | h
    · have e1 : min a b = a := by omega
      have e2 : max a b = b := by omega
      rw [e1, e2, decide_eq_false (no b a h), Bool.or_false]
    · have e1 : min a b = b := by omega
      have e2 : max a b = a := by omega
      rw [e1, e2, decide_eq_false (no a b h), Bool.false_or]
theorem inV_tx (q : List Nat) : ∀ T : List (List Nat), inV (tx q) (T.map tx) = decide (q ∈ T)
  | [] => rfl
  | t :: T => by
    show (eqV (tx t) (tx q) || inV (tx q) (T.map tx)) = _
    rw [inV_tx q T]
    have e : eqV (tx t) (tx q) = decide (q = t) := by
      show (S t == S q) = _
      by_cases h : q = t
      · subst h; simp
      · rw [decide_eq_false h]
        exact beq_eq_false_iff_ne.mpr fun z => h (S_inj z).symm
    rw [e]
    by_cases h : q = t
    · subst h; simp
    · by_cases h2 : q ∈ T
      · simp [h, h2]
      · simp [h, h2]
theorem flat_tx (T : List (List Nat)) : (T.map tx).all flatV = true := by
  rw [List.all_eq_true]
  intro x hx
  obtain ⟨q, _, e⟩ := List.mem_map.mp hx
  rw [← e]
  rfl
def parts (L : List Nat) (T : List (List Nat)) : List (List Nat) := (L.map fun c => [c]) ++ T
def only (w l : List Nat) : List Nat := w.filter fun c => decide (c ∈ l)
def toldD (L : List Nat) (T : List (List Nat)) (w : List Nat) : PyData := .tuple ((parts L T).map fun q => .tuple [.str (S q), .str (S (only w q))])
theorem slice_from (l : List Nat) (k : Nat) : Txt.slice (S l) (some (k : Int)) none = S (l.drop k) := by
  by_cases h : k ≤ l.length
  · have hl : (S l).length = l.length := S_len l
    rw [slice_from_eq (x := S l) (i := (k : Int)) (b := ((S l).length : Int)) (by omega) (by omega) rfl, S_cps]
    have e : (((S l).length : Int) - (k : Int)).toNat = l.length - k := by omega
    have e2 : ((k : Int)).toNat = k := by omega
    rw [e, e2, List.take_of_length_le (by rw [List.length_drop]; omega)]
  · rw [slice_beyond (by rw [S_len]; omega), List.drop_eq_nil_of_le (by omega)]
    rfl
theorem small {n : Nat} (h : n ≤ 100000) : n ≤ sizeLine := by
  have : (100000 : Nat) ≤ sizeLine := by rw [sizeLine_eq]; decide
  omega
end HW
namespace HW
open PySem L2 PyProof.Rows
theorem slice_to (l : List Nat) (k : Nat) : Txt.slice (S l) none (some (k : Int)) = S (l.take k) := by
  have hl : (S l).length = l.length := S_len l
  by_cases h : k ≤ l.length
  · have e := beq_iff_eq.mp (slice_closes_toL (x := S l) (j := (k : Int)) (by omega) (by omega))
    rw [e, S_cps]
    have e2 : ((k : Int) - 0).toNat = k := by omega
    rw [e2]
    rfl
  · rw [slice_to_beyond (by omega), beq_iff_eq.mp (slice_closes_toL (x := S l) (j := ((S l).length : Int)) (by omega) (by omega)), S_cps]
    have e2 : (((S l).length : Int) - 0).toNat = l.length := by omega
    rw [e2, List.take_of_length_le (by omega : l.length ≤ k)]
    show S (l.take l.length) = S l
    rw [List.take_length]
end HW
namespace HW
end HW
namespace HW
open PySem L2 PyProof.Rows
theorem cutV_sub {xs : List V} {lo hi : Option Int} {x : V} (h : x ∈ cutV xs lo hi) : x ∈ xs := by
  unfold cutV at h
  exact List.mem_of_mem_drop (List.mem_of_mem_take h)
end HW
namespace HW
open L2
theorem atI_zero {α : Type} (x : α) (xs : List α) : atI (x :: xs) 0 = some x := atI_nat (j := 0) rfl
end HW
namespace TR
def pr (a b : Nat) (w : List Nat) : List Nat := w.filter fun c => c == a || c == b
def Heq (td : Nat → Nat → Bool) (u v : List Nat) : Prop := ∀ a b, td a b = true → pr a b u = pr a b v
structure Td (td : Nat → Nat → Bool) : Prop where
  r : ∀ a, td a a = true
  s : ∀ a b, td a b = td b a
section
variable {td : Nat → Nat → Bool} {u v w x y : List Nat} {a b c : Nat}
theorem pr_app (a b : Nat) (u v : List Nat) : pr a b (u ++ v) = pr a b u ++ pr a b v := List.filter_append ..
theorem pr_rev (a b : Nat) (u : List Nat) : pr a b u.reverse = (pr a b u).reverse := List.filter_reverse ..
theorem pr_comm (a b : Nat) (u : List Nat) : pr a b u = pr b a u := by
  unfold pr
  congr 1
  funext c
  rw [Bool.or_comm]
theorem pr_in {a b c : Nat} (h : c = a ∨ c = b) (u : List Nat) : pr a b (c :: u) = c :: pr a b u := by
  unfold pr
  rw [List.filter_cons]
  have : (c == a || c == b) = true := by simp; exact h
  rw [if_pos this]
theorem pr_out {a b c : Nat} (h1 : c ≠ a) (h2 : c ≠ b) (u : List Nat) : pr a b (c :: u) = pr a b u := by
  unfold pr
  rw [List.filter_cons]
  have : ¬ (c == a || c == b) = true := by simp; exact ⟨h1, h2⟩
  rw [if_neg this]
theorem pr_mem {a b c : Nat} {u : List Nat} : c ∈ pr a b u ↔ c ∈ u ∧ (c = a ∨ c = b) := by
  unfold pr
  rw [List.mem_filter]
  simp
theorem pr_nil_of {a b : Nat} {u : List Nat} (h : ∀ c ∈ u, c ≠ a ∧ c ≠ b) : pr a b u = [] := by
  unfold pr
  rw [List.filter_eq_nil_iff]
  intro c hc
  have := h c hc
  simp [this.1, this.2]
theorem Heq.refl (td : Nat → Nat → Bool) (u : List Nat) : Heq td u u := fun _ _ _ => rfl
theorem Heq.symm (h : Heq td u v) : Heq td v u := fun a b t => (h a b t).symm
theorem Heq.trans (h : Heq td u v) (k : Heq td v w) : Heq td u w := fun a b t => (h a b t).trans (k a b t)
theorem Heq.app (h : Heq td u v) (k : Heq td x y) : Heq td (u ++ x) (v ++ y) := fun a b t => by rw [pr_app, pr_app, h a b t, k a b t]
theorem Heq.cons (a : Nat) (h : Heq td u v) : Heq td (a :: u) (a :: v) := Heq.app (Heq.refl td [a]) h
theorem Heq.left (h : Heq td (x ++ u) (x ++ v)) : Heq td u v := fun a b t => by
  have := h a b t
  rw [pr_app, pr_app] at this
  exact List.append_cancel_left this
theorem Heq.right (h : Heq td (u ++ x) (v ++ x)) : Heq td u v := fun a b t => by
  have := h a b t
  rw [pr_app, pr_app] at this
  exact List.append_cancel_right this
theorem Heq.tail (h : Heq td (a :: u) (a :: v)) : Heq td u v := Heq.left (x := [a]) h
theorem Heq.rev (h : Heq td u v) : Heq td u.reverse v.reverse := fun a b t => by rw [pr_rev, pr_rev, h a b t]
theorem count_pr (a : Nat) (u : List Nat) : (pr a a u).length = u.count a := by
  unfold pr
  rw [List.count_eq_length_filter]
  congr 2
  funext c
  simp
theorem Heq.perm (T : Td td) (h : Heq td u v) : u.Perm v := List.perm_iff_count.mpr fun a => by
  rw [← count_pr, ← count_pr, h a a (T.r a)]
theorem Heq.len (T : Td td) (h : Heq td u v) : u.length = v.length := (h.perm T).length_eq
theorem Heq.mem (T : Td td) (h : Heq td u v) : a ∈ u ↔ a ∈ v := (h.perm T).mem_iff
theorem Heq.nil (T : Td td) (h : Heq td [] v) : v = [] := by
  have := h.len T
  exact List.length_eq_zero_iff.mp this.symm
theorem swap2 (T : Td td) (h : td a b = false) : Heq td [a, b] [b, a] := fun c d t => by
  have key : (a = c ∨ a = d) → (b = c ∨ b = d) → a = b := fun h1 h2 => by
    rcases h1 with rfl | rfl
    · rcases h2 with rfl | rfl
      · rfl
      · rw [h] at t; cases t
    · rcases h2 with rfl | rfl
      · rw [T.s, h] at t; cases t
      · rfl
  by_cases h1 : a = c ∨ a = d
  · by_cases h2 : b = c ∨ b = d
    · rw [key h1 h2]
    · rw [pr_in h1, pr_out (fun z => h2 (.inl z)) (fun z => h2 (.inr z)), pr_out (fun z => h2 (.inl z)) (fun z => h2 (.inr z)), pr_in h1]
  · rw [pr_out (fun z => h1 (.inl z)) (fun z => h1 (.inr z))]
    by_cases h2 : b = c ∨ b = d
    · rw [pr_in h2, pr_in h2, pr_out (fun z => h1 (.inl z)) (fun z => h1 (.inr z))]
    · rw [pr_out (fun z => h2 (.inl z)) (fun z => h2 (.inr z)), pr_out (fun z => h2 (.inl z)) (fun z => h2 (.inr z)), pr_out (fun z => h1 (.inl z)) (fun z => h1 (.inr z))]
theorem swap (T : Td td) (h : td a b = false) (u v : List Nat) : Heq td (u ++ a :: b :: v) (u ++ b :: a :: v) :=
  (Heq.refl td u).app ((swap2 T h).app (Heq.refl td v) : Heq td ([a, b] ++ v) ([b, a] ++ v))
theorem ahead (T : Td td) : ∀ {u : List Nat}, (∀ c ∈ u, td a c = false) → Heq td (u ++ [a]) (a :: u)
  | [], _ => Heq.refl td _
  | c :: u, h => by
    have i := ahead T (u := u) fun d hd => h d (List.mem_cons_of_mem _ hd)
    have h1 : Heq td (c :: (u ++ [a])) (c :: a :: u) := i.cons c
    have h2 : Heq td (c :: a :: u) (a :: c :: u) := swap T (by rw [T.s]; exact h c List.mem_cons_self) [] u
    exact h1.trans h2
theorem apart (T : Td td) : ∀ {u v : List Nat}, (∀ c ∈ u, ∀ d ∈ v, td c d = false) → Heq td (u ++ v) (v ++ u)
  | u, [], _ => by rw [List.append_nil]; exact Heq.refl td _
  | u, d :: v, h => by
    have h1 : Heq td (u ++ d :: v) (d :: (u ++ v)) := by
      have := (ahead T (a := d) (u := u) fun c hc => by rw [T.s]; exact h c hc d List.mem_cons_self).app (Heq.refl td v)
      rwa [List.append_assoc] at this
    have h2 := (apart T (u := u) (v := v) fun c hc e he => h c hc e (List.mem_cons_of_mem _ he)).cons d
    exact h1.trans h2
def Fr (td : Nat → Nat → Bool) (a : Nat) (w : List Nat) : Prop := ∃ x y, w = x ++ a :: y ∧ ∀ c ∈ x, td a c = false
theorem Fr.mem (h : Fr td a w) : a ∈ w := by
  obtain ⟨x, y, rfl, _⟩ := h
  exact List.mem_append_right _ List.mem_cons_self
theorem fr_head (a : Nat) (u : List Nat) : Fr td a (a :: u) := ⟨[], u, rfl, fun _ h => (nomatch h)⟩
theorem fr_erase (T : Td td) {x y : List Nat} (h : ∀ c ∈ x, td a c = false) : (x ++ a :: y).erase a = x ++ y := by
  have hn : a ∉ x := fun hm => by have := h a hm; rw [T.r] at this; cases this
  rw [List.erase_append_right _ hn, List.erase_cons_head]
theorem first_place {a : Nat} : ∀ {l : List Nat}, a ∈ l → ∃ x y, l = x ++ a :: y ∧ a ∉ x
  | [], h => by cases h
  | c :: l, h => by
    by_cases e : c = a
    · exact ⟨[], l, by rw [e]; rfl, fun z => (nomatch z)⟩
    · have : a ∈ l := by
        rcases List.mem_cons.mp h with z | z
        · exact absurd z.symm e
        · exact z
      obtain ⟨x, y, e1, e2⟩ := first_place this
      exact ⟨c :: x, y, by rw [e1]; rfl, fun z => by
        rcases List.mem_cons.mp z with q | q
        · exact e q.symm
        · exact e2 q⟩
theorem split (T : Td td) (h : Heq td (a :: u) v) : ∃ x y, v = x ++ a :: y ∧ (∀ c ∈ x, td a c = false) ∧ Heq td u (x ++ y) := by
  have hm : a ∈ v := (h.mem T).mp List.mem_cons_self
  obtain ⟨x, y, hv, hx⟩ := first_place hm
  subst hv
  have hx2 : ∀ c ∈ x, td a c = false := fun c hc => by
    cases ht : td a c with
    | false => rfl
    | true =>
      exfalso
      have e := h a c ht
      rw [pr_in (.inl rfl), pr_app, pr_in (.inl rfl)] at e
      cases hp : pr a c x with
      | nil =>
        have : c ∈ pr a c x := pr_mem.mpr ⟨hc, .inr rfl⟩
        rw [hp] at this
        cases this
      | cons d r =>
        rw [hp] at e
        have ed : a = d := by simpa using (List.cons.inj e).1
        have : d ∈ pr a c x := by rw [hp]; exact List.mem_cons_self
        have := (pr_mem.mp this).1
        rw [← ed] at this
        exact hx this
  refine ⟨x, y, rfl, hx2, fun c d t => ?_⟩
  have e := h c d t
  by_cases hcd : a = c ∨ a = d
  · have hn : pr c d x = [] := pr_nil_of fun f hf => by
      have h1 := hx2 f hf
      have h2 : f ≠ a := fun z => hx (z ▸ hf)
      rcases hcd with rfl | rfl
      · exact ⟨h2, (fun z => by rw [← z, h1] at t; cases t)⟩
      · exact ⟨(fun z => by rw [T.s, ← z, h1] at t; cases t), h2⟩
    rw [pr_in hcd, pr_app, pr_in hcd, hn, List.nil_append] at e
    rw [pr_app, hn, List.nil_append]
    exact (List.cons.inj e).2
  · have n1 : a ≠ c := fun z => hcd (.inl z)
    have n2 : a ≠ d := fun z => hcd (.inr z)
    rw [pr_out n1 n2, pr_app, pr_out n1 n2] at e
    rw [pr_app]
    exact e
theorem fr_of (T : Td td) (h : Heq td (a :: u) v) : Fr td a v := by
  obtain ⟨x, y, e, hx, _⟩ := split T h
  exact ⟨x, y, e, hx⟩
theorem Fr.off (T : Td td) (h : Fr td a w) : Heq td w (a :: w.erase a) := by
  obtain ⟨x, y, rfl, hx⟩ := h
  rw [fr_erase T hx]
  have := (ahead T hx).app (Heq.refl td y)
  rwa [List.append_assoc] at this
theorem Fr.heq (T : Td td) (h : Heq td u v) (f : Fr td a u) : Fr td a v := fr_of T ((f.off T).symm.trans h)
theorem Fr.erase (T : Td td) (h : Heq td u v) (f : Fr td a u) : Heq td (u.erase a) (v.erase a) :=
  Heq.tail (a := a) ((f.off T).symm.trans (h.trans ((f.heq T h).off T)))
theorem fr_cons (T : Td td) : Fr td a (b :: w) ↔ a = b ∨ (td a b = false ∧ Fr td a w) := by
  constructor
  · rintro ⟨x, y, e, hx⟩
    cases x with
    | nil => exact .inl (List.cons.inj e).1.symm
    | cons c x =>
      have e1 := (List.cons.inj e).1
      have e2 := (List.cons.inj e).2
      subst e1
      exact .inr ⟨hx b List.mem_cons_self, x, y, e2, fun d hd => hx d (List.mem_cons_of_mem _ hd)⟩
  · rintro (rfl | ⟨h, x, y, rfl, hx⟩)
    · exact fr_head a w
    · refine ⟨b :: x, y, rfl, fun d hd => ?_⟩
      rcases List.mem_cons.mp hd with rfl | z
      · exact h
      · exact hx d z
theorem fr_app (T : Td td) : Fr td a (u ++ v) ↔ Fr td a u ∨ ((∀ c ∈ u, td a c = false) ∧ Fr td a v) := by
  induction u with
  | nil =>
    constructor
    · intro h
      exact .inr ⟨fun _ z => (nomatch z), h⟩
    · rintro (h | h)
      · exact absurd h.mem (by simp)
      · exact h.2
  | cons b u ih =>
    rw [List.cons_append, fr_cons T, fr_cons T, ih]
    constructor
    · rintro (h | ⟨h1, h2 | ⟨h3, h4⟩⟩)
      · exact .inl (.inl h)
      · exact .inl (.inr ⟨h1, h2⟩)
      · refine .inr ⟨fun c hc => ?_, h4⟩
        rcases List.mem_cons.mp hc with rfl | z
        · exact h1
        · exact h3 c z
    · rintro ((h | ⟨h1, h2⟩) | ⟨h1, h2⟩)
      · exact .inl h
      · exact .inr ⟨h1, .inl h2⟩
      · exact .inr ⟨h1 b List.mem_cons_self, .inr ⟨fun c hc => h1 c (List.mem_cons_of_mem _ hc), h2⟩⟩
theorem fr_nil : ¬ Fr td a [] := fun h => by have := h.mem; cases this
def Least (td : Nat → Nat → Bool) (p : List Nat) : Prop := ∀ x b y a z, p = x ++ b :: y ++ a :: z → a < b → ∃ c ∈ b :: y, td c a = true
theorem Least.tail (h : Least td (a :: u)) : Least td u := fun x b y c z e hl => h (a :: x) b y c z (by rw [e]; rfl) hl
theorem least_nil : Least td [] := fun x b y a z e _ => by simp at e
theorem Least.head (T : Td td) (h : Least td (b :: u)) (f : Fr td a (b :: u)) : b ≤ a := by
  rcases Nat.lt_or_ge a b with hl | hl
  · obtain ⟨x, y, e, hx⟩ := f
    cases x with
    | nil => rw [(List.cons.inj e).1]; exact Nat.le_refl _
    | cons c x =>
      have e1 := (List.cons.inj e).1
      subst e1
      obtain ⟨d, hd, ht⟩ := h [] b x a y e hl
      rw [T.s, hx d hd] at ht
      cases ht
  · exact hl
theorem least_cons (T : Td td) (hu : Least td u) (hm : ∀ b, Fr td b (a :: u) → a ≤ b) : Least td (a :: u) := by
  intro x b y c z e hl
  cases x with
  | cons d x =>
    exact hu x b y c z (List.cons.inj e).2 hl
  | nil =>
    have e1 : a = b := (List.cons.inj e).1
    subst e1
    by_cases hf : ∃ d ∈ a :: y, td d c = true
    · exact hf
    · exfalso
      have : Fr td c (a :: u) := ⟨a :: y, z, e, fun d hd => by
        cases ht : td c d with
        | false => rfl
        | true => exact absurd ⟨d, hd, by rw [T.s]; exact ht⟩ hf⟩
      have := hm c this
      omega
theorem least_one (T : Td td) : ∀ {u v : List Nat}, Heq td u v → Least td u → Least td v → u = v
  | [], v, h, _, _ => (h.nil T).symm
  | a :: u, [], h, _, _ => (h.symm.nil T)
  | a :: u, b :: v, h, hu, hv => by
    have f1 : Fr td a (b :: v) := fr_of T h
    have f2 : Fr td b (a :: u) := fr_of T h.symm
    have e : a = b := Nat.le_antisymm (hu.head T f2) (hv.head T f1)
    subst e
    rw [least_one T h.tail hu.tail hv.tail]
end
end TR
namespace TR
section
variable {td : Nat → Nat → Bool} {u v w x y : List Nat} {a b c : Nat}
structure Flat (td : Nat → Nat → Bool) (l : List Nat) : Prop where
  ne : l ≠ []
  up : l.Pairwise (· < ·)
  un : ∀ a ∈ l, ∀ b ∈ l, a ≠ b → td a b = false
theorem Flat.fr (h : Flat td w) (ha : a ∈ w) : Fr td a w := by
  obtain ⟨x, y, e, hx⟩ := first_place ha
  refine ⟨x, y, e, fun c hc => ?_⟩
  have hcw : c ∈ w := by rw [e]; exact List.mem_append_left _ hc
  exact h.un a ha c hcw fun z => hx (z ▸ hc)
def Chain (td : Nat → Nat → Bool) : List Nat → Prop
  | [] => True
  | [_] => True
  | a :: b :: r => td a b = true ∧ Chain td (b :: r)
theorem Chain.tail (h : Chain td (a :: u)) : Chain td u := by
  cases u with
  | nil => trivial
  | cons b r => exact h.2
def Beg (td : Nat → Nat → Bool) (d w : List Nat) : Prop := ∃ z, Heq td (d ++ z) w
theorem Beg.heq (h : Beg td u w) (k : Heq td w v) : Beg td u v := by
  obtain ⟨z, hz⟩ := h
  exact ⟨z, hz.trans k⟩
theorem Beg.anti (T : Td td) (h : Beg td u v) (k : Beg td v u) : Heq td u v := by
  obtain ⟨z, hz⟩ := h
  obtain ⟨y, hy⟩ := k
  have l1 := hz.len T
  have l2 := hy.len T
  rw [List.length_append] at l1 l2
  have : z = [] := List.length_eq_zero_iff.mp (by omega)
  rw [this, List.append_nil] at hz
  exact hz
theorem beg_nil (w : List Nat) : Beg td [] w := ⟨w, Heq.refl td w⟩
theorem beg_cons (T : Td td) : Beg td (a :: u) w ↔ Fr td a w ∧ Beg td u (w.erase a) := by
  constructor
  · rintro ⟨z, hz⟩
    have f : Fr td a w := fr_of T hz
    exact ⟨f, z, Heq.tail (a := a) (hz.trans (f.off T))⟩
  · rintro ⟨f, z, hz⟩
    exact ⟨z, (hz.cons a).trans (f.off T).symm⟩
def Dis (td : Nat → Nat → Bool) (x y : List Nat) : Prop := ∀ a, Fr td a x → Fr td a y → False
theorem common_max (T : Td td) : ∀ {d c x x' w w' : List Nat}, Heq td (c ++ x) w → Heq td (c ++ x') w' → Dis td x x' → Beg td d w → Beg td d w' → Beg td d c
  | [], c, _, _, _, _, _, _, _, _, _ => beg_nil c
  | a :: d, c, x, x', w, w', h, h', di, b, b' => by
    obtain ⟨f, g⟩ := (beg_cons T).mp b
    obtain ⟨f', g'⟩ := (beg_cons T).mp b'
    have k := (fr_app T).mp (f.heq T h.symm)
    have k' := (fr_app T).mp (f'.heq T h'.symm)
    have fc : Fr td a c := by
      rcases k with k | ⟨k1, k2⟩
      · exact k
      · rcases k' with k' | ⟨k1', k2'⟩
        · exact k'
        · exact (di a k2 k2').elim
    refine (beg_cons T).mpr ⟨fc, ?_⟩
    have hw : Heq td (c.erase a ++ x) (w.erase a) := by
      have e1 : Heq td (a :: (c.erase a ++ x)) (c ++ x) := (fc.off T).symm.app (Heq.refl td x)
      exact Heq.tail (a := a) (e1.trans (h.trans (f.off T)))
    have hw' : Heq td (c.erase a ++ x') (w'.erase a) := by
      have e1 : Heq td (a :: (c.erase a ++ x')) (c ++ x') := (fc.off T).symm.app (Heq.refl td x')
      exact Heq.tail (a := a) (e1.trans (h'.trans (f'.off T)))
    exact common_max T hw hw' di g g'
end
end TR
namespace TR
section
variable {td : Nat → Nat → Bool} {u v w x y : List Nat} {a b c : Nat}
def frs (td : Nat → Nat → Bool) : List Nat → List Nat → List Nat
  | _, [] => []
  | pre, a :: w => if pre.all (fun c => !td a c) = true then a :: frs td (pre ++ [a]) w else frs td (pre ++ [a]) w
def firsts (td : Nat → Nat → Bool) (w : List Nat) : List Nat := frs td [] w
theorem all_un {pre : List Nat} {a : Nat} : pre.all (fun c => !td a c) = true ↔ ∀ c ∈ pre, td a c = false := by
  rw [List.all_eq_true]
  constructor
  · intro h c hc
    have := h c hc
    simpa using this
  · intro h c hc
    simp [h c hc]
theorem mem_frs (T : Td td) : ∀ {w pre : List Nat}, a ∈ frs td pre w ↔ (∀ c ∈ pre, td a c = false) ∧ Fr td a w
  | [], pre => ⟨(fun h => by cases h), fun h => absurd h.2 fr_nil⟩
  | b :: w, pre => by
    unfold frs
    have i := mem_frs T (w := w) (pre := pre ++ [b])
    have sp : (∀ c ∈ pre ++ [b], td a c = false) ↔ (∀ c ∈ pre, td a c = false) ∧ td a b = false := by
      constructor
      · intro h
        exact ⟨fun c hc => h c (List.mem_append_left _ hc), h b (List.mem_append_right _ List.mem_cons_self)⟩
      · rintro ⟨h1, h2⟩ c hc
        rcases List.mem_append.mp hc with z | z
        · exact h1 c z
        · rw [List.mem_singleton.mp z]; exact h2
    rw [sp] at i
    rw [fr_cons T]
    split
    · rename_i hp
      have hp' := all_un.mp hp
      rw [List.mem_cons, i]
      constructor
      · rintro (rfl | ⟨⟨h1, h2⟩, h3⟩)
        · exact ⟨hp', .inl rfl⟩
        · exact ⟨h1, .inr ⟨h2, h3⟩⟩
      · rintro ⟨h1, rfl | ⟨h2, h3⟩⟩
        · exact .inl rfl
        · exact .inr ⟨⟨h1, h2⟩, h3⟩
    · rename_i hp
      rw [i]
      constructor
      · rintro ⟨⟨h1, h2⟩, h3⟩
        exact ⟨h1, .inr ⟨h2, h3⟩⟩
      · rintro ⟨h1, rfl | ⟨h2, h3⟩⟩
        · exact absurd (all_un.mpr h1) hp
        · exact ⟨⟨h1, h2⟩, h3⟩
theorem mem_firsts (T : Td td) : a ∈ firsts td w ↔ Fr td a w := by
  unfold firsts
  rw [mem_frs T]
  exact ⟨fun h => h.2, fun h => ⟨fun _ z => (nomatch z), h⟩⟩
theorem nodup_frs (T : Td td) : ∀ {w pre : List Nat}, (frs td pre w).Nodup
  | [], _ => List.nodup_nil
  | b :: w, pre => by
    unfold frs
    split
    · refine List.nodup_cons.mpr ⟨fun h => ?_, nodup_frs T⟩
      have := ((mem_frs T).mp h).1 b (List.mem_append_right _ List.mem_cons_self)
      rw [T.r] at this
      cases this
    · exact nodup_frs T
theorem nodup_firsts (T : Td td) (w : List Nat) : (firsts td w).Nodup := nodup_frs T
def lin (td : Nat → Nat → Bool) : Nat → List Nat → List (List Nat)
  | 0, _ => [[]]
  | n + 1, w => (firsts td w).flatMap fun a => (lin td n (w.erase a)).map (a :: ·)
theorem mem_lin (T : Td td) : ∀ {n : Nat} {w v : List Nat}, w.length = n → (v ∈ lin td n w ↔ Heq td v w)
  | 0, w, v, hn => by
    have hw : w = [] := List.length_eq_zero_iff.mp hn
    subst hw
    unfold lin
    rw [List.mem_singleton]
    constructor
    · rintro rfl
      exact Heq.refl td _
    · intro h
      exact h.symm.nil T
  | n + 1, w, v, hn => by
    unfold lin
    rw [List.mem_flatMap]
    constructor
    · rintro ⟨a, ha, hv⟩
      obtain ⟨u, hu, rfl⟩ := List.mem_map.mp hv
      have f := (mem_firsts T).mp ha
      have hl : (w.erase a).length = n := by rw [List.length_erase_of_mem f.mem, hn]; rfl
      exact (((mem_lin T hl).mp hu).cons a).trans (f.off T).symm
    · intro h
      cases v with
      | nil =>
        have := h.len T
        rw [hn] at this
        cases this
      | cons a u =>
        have f : Fr td a w := fr_of T h
        have hl : (w.erase a).length = n := by rw [List.length_erase_of_mem f.mem, hn]; rfl
        exact ⟨a, (mem_firsts T).mpr f, List.mem_map.mpr ⟨u, (mem_lin T hl).mpr (Heq.tail (a := a) (h.trans (f.off T))), rfl⟩⟩
theorem nodup_map_cons {l : List (List Nat)} (h : l.Nodup) (a : Nat) : (l.map (a :: ·)).Nodup := by
  induction l with
  | nil => exact List.nodup_nil
  | cons x l ih =>
    obtain ⟨h1, h2⟩ := List.nodup_cons.mp h
    rw [List.map_cons]
    refine List.nodup_cons.mpr ⟨fun hm => ?_, ih h2⟩
    obtain ⟨y, hy, e⟩ := List.mem_map.mp hm
    rw [(List.cons.inj e).2] at hy
    exact h1 hy
theorem nodup_flat {f : Nat → List (List Nat)} : ∀ {l : List Nat}, l.Nodup → (∀ a ∈ l, (f a).Nodup) → (∀ a b v, v ∈ f a → v ∈ f b → a = b) → (l.flatMap f).Nodup
  | [], _, _, _ => List.nodup_nil
  | a :: l, h, h1, h2 => by
    obtain ⟨n1, n2⟩ := List.nodup_cons.mp h
    rw [List.flatMap_cons]
    refine List.nodup_append.mpr ⟨h1 a List.mem_cons_self, nodup_flat n2 (fun b hb => h1 b (List.mem_cons_of_mem _ hb)) h2, fun x hx y hy e => ?_⟩
    subst e
    obtain ⟨b, hb, hx2⟩ := List.mem_flatMap.mp hy
    have := h2 a b x hx hx2
    subst this
    exact n1 hb
theorem nodup_lin (T : Td td) : ∀ (n : Nat) (w : List Nat), (lin td n w).Nodup
  | 0, _ => by unfold lin; simp
  | n + 1, w => by
    unfold lin
    refine nodup_flat (nodup_firsts T w) (fun a _ => nodup_map_cons (nodup_lin T n _) a) fun a b v h1 h2 => ?_
    obtain ⟨x, _, rfl⟩ := List.mem_map.mp h1
    obtain ⟨y, _, e⟩ := List.mem_map.mp h2
    exact (List.cons.inj e).1.symm
def cnt (td : Nat → Nat → Bool) (w : List Nat) : Nat := (lin td w.length w).length
theorem len_le {l m : List (List Nat)} (h : l.Nodup) (k : ∀ x ∈ l, x ∈ m) : l.length ≤ m.length := by
  induction l generalizing m with
  | nil => exact Nat.zero_le _
  | cons x l ih =>
    obtain ⟨n1, n2⟩ := List.nodup_cons.mp h
    have hx := k x List.mem_cons_self
    have i := ih (m := m.erase x) n2 fun y hy => by
      have hne : y ≠ x := fun e => n1 (e ▸ hy)
      exact (List.mem_erase_of_ne hne).mpr (k y (List.mem_cons_of_mem _ hy))
    rw [List.length_erase_of_mem hx] at i
    have : 0 < m.length := List.length_pos_of_mem hx
    rw [List.length_cons]
    omega
theorem len_eq {l m : List (List Nat)} (h : l.Nodup) (k : m.Nodup) (e : ∀ x, x ∈ l ↔ x ∈ m) : l.length = m.length :=
  Nat.le_antisymm (len_le h fun x => (e x).mp) (len_le k fun x => (e x).mpr)
theorem cnt_of (T : Td td) {l : List (List Nat)} (h : l.Nodup) (k : ∀ v, v ∈ l ↔ Heq td v w) : l.length = cnt td w :=
  len_eq h (nodup_lin T _ _) fun v => by rw [k v, mem_lin T rfl]
theorem sum_len {f : Nat → List (List Nat)} : ∀ l : List Nat, (l.flatMap f).length = (l.map fun a => (f a).length).sum
  | [] => rfl
  | a :: l => by rw [List.flatMap_cons, List.length_append, sum_len l, List.map_cons, List.sum_cons]
theorem cnt_rec (_T : Td td) (h : w ≠ []) : cnt td w = ((firsts td w).map fun a => cnt td (w.erase a)).sum := by
  obtain ⟨b, w', rfl⟩ : ∃ b w', w = b :: w' := by
    cases w with
    | nil => exact absurd rfl h
    | cons b w' => exact ⟨b, w', rfl⟩
  show (lin td (w'.length + 1) (b :: w')).length = _
  unfold lin
  rw [sum_len]
  congr 1
  refine List.map_congr_left fun a ha => ?_
  rw [List.length_map]
  have f := (mem_firsts _T).mp ha
  have hl : ((b :: w').erase a).length = w'.length := by rw [List.length_erase_of_mem f.mem]; rfl
  unfold cnt
  rw [hl]
def loose : Nat → Nat → Bool := fun a b => a == b
theorem loose_td : Td loose := ⟨fun a => by simp [loose], fun a b => by unfold loose; rw [Bool.eq_iff_iff]; simp; exact ⟨Eq.symm, Eq.symm⟩⟩
theorem fr_loose (h : a ∈ w) : Fr loose a w := by
  obtain ⟨x, y, e, hx⟩ := first_place h
  refine ⟨x, y, e, fun c hc => ?_⟩
  have : a ≠ c := fun z => hx (z ▸ hc)
  simpa [loose] using this
theorem mem_firsts_loose : a ∈ firsts loose w ↔ a ∈ w := by
  rw [mem_firsts loose_td]
  exact ⟨Fr.mem, fr_loose⟩
theorem others (w : List Nat) (a : Nat) : ∃ r : List Nat, r.Nodup ∧ (∀ b, b ∈ r ↔ b ≠ a ∧ b ∈ w) :=
  ⟨(firsts loose w).erase a, (nodup_firsts loose_td w).erase a, fun b => by rw [(nodup_firsts loose_td w).mem_erase_iff, mem_firsts_loose]⟩
end
end TR
namespace TR
section
variable {td : Nat → Nat → Bool} {u v w x y : List Nat} {a b c : Nat}
def lst (l : List Nat) : Nat := match l with
  | [] => 0
  | a :: l => l.foldl min a
theorem foldl_min : ∀ (l : List Nat) (a : Nat), (l.foldl min a ∈ a :: l) ∧ ∀ b ∈ a :: l, l.foldl min a ≤ b
  | [], a => ⟨List.mem_cons_self, fun b hb => by rw [List.mem_singleton.mp hb]; exact Nat.le_refl _⟩
  | c :: l, a => by
    obtain ⟨h1, h2⟩ := foldl_min l (min a c)
    rw [List.foldl_cons]
    constructor
    · rcases List.mem_cons.mp h1 with z | z
      · rw [z]
        by_cases h : a ≤ c
        · rw [Nat.min_eq_left h]; exact List.mem_cons_self
        · rw [Nat.min_eq_right (by omega)]; exact List.mem_cons_of_mem _ List.mem_cons_self
      · exact List.mem_cons_of_mem _ (List.mem_cons_of_mem _ z)
    · intro b hb
      have h3 := h2 (min a c) List.mem_cons_self
      rcases List.mem_cons.mp hb with rfl | z
      · omega
      · rcases List.mem_cons.mp z with rfl | q
        · omega
        · exact h2 b (List.mem_cons_of_mem _ q)
theorem lst_mem {l : List Nat} (h : l ≠ []) : lst l ∈ l := by
  cases l with
  | nil => exact absurd rfl h
  | cons a l => exact (foldl_min l a).1
theorem lst_le {l : List Nat} (h : b ∈ l) : lst l ≤ b := by
  cases l with
  | nil => cases h
  | cons a l => exact (foldl_min l a).2 b h
def plN (td : Nat → Nat → Bool) : Nat → List Nat → List Nat
  | 0, _ => []
  | n + 1, w => lst (firsts td w) :: plN td n (w.erase (lst (firsts td w)))
def pl (td : Nat → Nat → Bool) (w : List Nat) : List Nat := plN td w.length w
theorem firsts_ne (T : Td td) (h : w ≠ []) : firsts td w ≠ [] := by
  cases w with
  | nil => exact absurd rfl h
  | cons a w =>
    intro z
    have : a ∈ firsts td (a :: w) := (mem_firsts T).mpr (fr_head a w)
    rw [z] at this
    cases this
theorem pl_nil : pl td [] = [] := rfl
def allW (L : List Nat) : Nat → List (List Nat)
  | 0 => [[]]
  | n + 1 => (allW L n).flatMap fun w => L.map fun a => w ++ [a]
def plains (td : Nat → Nat → Bool) (L : List Nat) (n : Nat) : List (List Nat) := (allW L n).filter fun w => decide (pl td w = w)
def hp (td : Nat → Nat → Bool) (L : List Nat) (n : Nat) : Nat := (plains td L n).length
def Crowd (td : Nat → Nat → Bool) (C : List Nat) : Prop := C.Nodup ∧ ∀ a ∈ C, ∀ b ∈ C, a ≠ b → td a b = false
theorem Crowd.tail (h : Crowd td (a :: u)) : Crowd td u := ⟨(List.nodup_cons.mp h.1).2, fun b hb c hc => h.2 b (List.mem_cons_of_mem _ hb) c (List.mem_cons_of_mem _ hc)⟩
def sg (n : Nat) : Int := 1 - 2 * ((n % 2 : Nat) : Int)
def subs : List Nat → List (List Nat)
  | [] => [[]]
  | a :: L => subs L ++ (subs L).map (a :: ·)
theorem nodup_len_le {l m : List Nat} (h : l.Nodup) (k : ∀ x ∈ l, x ∈ m) : l.length ≤ m.length := by
  induction l generalizing m with
  | nil => exact Nat.zero_le _
  | cons x l ih =>
    obtain ⟨n1, n2⟩ := List.nodup_cons.mp h
    have hx := k x List.mem_cons_self
    have i := ih (m := m.erase x) n2 fun y hy => by
      have hne : y ≠ x := fun e => n1 (e ▸ hy)
      exact (List.mem_erase_of_ne hne).mpr (k y (List.mem_cons_of_mem _ hy))
    rw [List.length_erase_of_mem hx] at i
    have : 0 < m.length := List.length_pos_of_mem hx
    rw [List.length_cons]
    omega
end
end TR
namespace HW
open PySem L2 PyProof.Rows
theorem strOk_S {l : List Nat} (h : ∀ c ∈ l, c ≤ 122) : PyData.strOk (S l) = true := by
  unfold PyData.strOk
  rw [Array.all_eq_true']
  intro c hc
  have : c ∈ l := by simpa using hc
  have := h c this
  exact decide_eq_true (by omega)
theorem lay_parts {v : List Nat} (hv : ∀ c ∈ v, c ≤ 122) : ∀ {ps : List (List Nat)}, (∀ q ∈ ps, ∀ c ∈ q, c ≤ 122) → PyData.canLayAll0 (ps.map fun q => PyData.tuple [.str (S q), .str (S (HW.only v q))]) = true ∧ PyData.depthAll (ps.map fun q => PyData.tuple [.str (S q), .str (S (HW.only v q))]) ≤ 1
  | [], _ => ⟨rfl, by simp [PyData.depthAll]⟩
  | q :: ps, h => by
    obtain ⟨i1, i2⟩ := lay_parts hv (ps := ps) fun x hx => h x (List.mem_cons_of_mem _ hx)
    have h1 := strOk_S (h q List.mem_cons_self)
    have h2 : PyData.strOk (S (HW.only v q)) = true := strOk_S fun c hc => hv c ((List.mem_filter.mp hc).1)
    rw [List.map_cons]
    constructor
    · simp only [PyData.canLayAll0, PyData.canLay0, h1, h2, i1, Bool.and_self]
    · simp only [PyData.depthAll, PyData.depth] at i2 ⊢
      omega
theorem shaped_told {L : List Nat} {T : List (List Nat)} (G : Ground L T) {v : List Nat} (hv : ∀ c ∈ v, c ∈ L) : SeqAt.shaped (toldD L T v) = true ∧ PyData.canLay0 (toldD L T v) = true := by
  have az : ∀ c ∈ L, c ≤ 122 := fun c hc => (G.le.az c hc).2
  have hp : ∀ q ∈ parts L T, ∀ c ∈ q, c ≤ 122 := fun q hq c hc => by
    unfold parts at hq
    rcases List.mem_append.mp hq with z | z
    · obtain ⟨d, hd, e⟩ := List.mem_map.mp z
      subst e
      have : c = d := by simpa using hc
      exact az c (this ▸ hd)
    · obtain ⟨a, b, e, _, ha, hb⟩ := G.ti q z
      subst e
      rcases List.mem_cons.mp hc with y | y
      · exact az c (y ▸ ha)
      · have : c = b := by simpa using y
        exact az c (this ▸ hb)
  obtain ⟨i1, i2⟩ := lay_parts (v := v) (fun c hc => az c (hv c hc)) hp
  have l0 : PyData.canLay0 (toldD L T v) = true := by
    unfold toldD
    rw [PyData.canLay0]
    exact i1
  refine ⟨?_, l0⟩
  unfold SeqAt.shaped
  rw [l0, Bool.true_and]
  refine decide_eq_true ?_
  unfold toldD
  rw [PyData.depth]
  omega
def tD (q : List Nat) : PyData := .str (S q)
theorem eqv_t (a b : List Nat) : PyData.eqv (tD a) (tD b) = decide (a = b) := by
  show (S a == S b) = _
  by_cases h : a = b
  · subst h; simp
  · rw [decide_eq_false h]
    exact beq_eq_false_iff_ne.mpr fun z => h (S_inj z)
theorem eqvAll_t : ∀ l m : List (List Nat), PyData.eqvAll (l.map tD) (m.map tD) = decide (l = m)
  | [], [] => rfl
  | [], m :: ms => rfl
  | l :: ls, [] => rfl
  | l :: ls, m :: ms => by
    show (PyData.eqv (tD l) (tD m) && PyData.eqvAll (ls.map tD) (ms.map tD)) = _
    rw [eqv_t, eqvAll_t ls ms]
    by_cases h1 : l = m
    · by_cases h2 : ls = ms
      · subst h1 h2; simp
      · simp [h1, h2]
    · simp [h1]
theorem lay_ts : ∀ {l : List (List Nat)}, (∀ q ∈ l, ∀ c ∈ q, c ≤ 122) → PyData.canLayAll0 (l.map tD) = true ∧ PyData.depthAll (l.map tD) ≤ 1
  | [], _ => ⟨rfl, by simp [PyData.depthAll]⟩
  | q :: l, h => by
    obtain ⟨i1, i2⟩ := lay_ts (l := l) fun x hx => h x (List.mem_cons_of_mem _ hx)
    have h1 : PyData.strOk (S q) = true := strOk_S (h q List.mem_cons_self)
    rw [List.map_cons]
    constructor
    · show (PyData.canLay0 (tD q) && PyData.canLayAll0 (l.map tD)) = true
      rw [i1, Bool.and_true]
      exact h1
    · simp only [PyData.depthAll, tD, PyData.depth] at i2 ⊢
      omega
theorem shaped_lst {l : List (List Nat)} (h : ∀ q ∈ l, ∀ c ∈ q, c ≤ 122) : SeqAt.shaped (.list (l.map tD)) = true := by
  obtain ⟨i1, i2⟩ := lay_ts h
  unfold SeqAt.shaped
  have h1 : PyData.canLay0 (.list (l.map tD)) = true := by rw [PyData.canLay0]; exact i1
  rw [h1, Bool.true_and]
  refine decide_eq_true ?_
  rw [PyData.depth]
  omega
theorem dvs_ts {K : PySem.W.Frag} {H : Hp} : ∀ l : List (List Nat), DVs K H (l.map tx) (l.map tD)
  | [] => .nil
  | _ :: l => .cons (.str _) (dvs_ts l)
theorem td_ok (T : List (List Nat)) : TR.Td (tiedB T) := by
  refine ⟨fun a => ?_, fun a b => ?_⟩
  · unfold tiedB; simp
  · unfold tiedB
    rw [Nat.min_comm, Nat.max_comm]
    congr 1
    by_cases h : a = b
    · subst h; rfl
    · rw [decide_eq_false h, decide_eq_false fun z => h z.symm]
theorem only_one (w : List Nat) (a : Nat) : only w [a] = TR.pr a a w := by
  unfold only TR.pr
  congr 1
  funext c
  by_cases h : c = a
  · subst h; simp
  · simp [h]
theorem only_two (w : List Nat) (a b : Nat) : only w [a, b] = TR.pr a b w := by
  unfold only TR.pr
  congr 1
  funext c
  by_cases h : c = a
  · subst h; simp
  · by_cases h2 : c = b
    · subst h2; simp
    · simp [h, h2]
theorem told_iff {L : List Nat} {T : List (List Nat)} (G : Ground L T) {u v : List Nat} (hu : ∀ c ∈ u, c ∈ L) (hv : ∀ c ∈ v, c ∈ L) : (∀ q ∈ parts L T, only u q = only v q) ↔ TR.Heq (tiedB T) u v := by
  constructor
  · intro h a b t
    unfold tiedB at t
    rw [Bool.or_eq_true, decide_eq_true_iff, decide_eq_true_iff] at t
    have one : ∀ a, TR.pr a a u = TR.pr a a v := fun a => by
      by_cases ha : a ∈ L
      · rw [← only_one, ← only_one]
        exact h [a] (List.mem_append_left _ (List.mem_map.mpr ⟨a, ha, rfl⟩))
      · rw [TR.pr_nil_of fun c hc => ?_, TR.pr_nil_of fun c hc => ?_]
        · have : c ≠ a := fun z => ha (z ▸ hv c hc)
          exact ⟨this, this⟩
        · have : c ≠ a := fun z => ha (z ▸ hu c hc)
          exact ⟨this, this⟩
    rcases t with rfl | t
    · exact one a
    · have e := h _ (List.mem_append_right _ t)
      rw [only_two, only_two] at e
      rcases Nat.le_total a b with z | z
      · rwa [Nat.min_eq_left z, Nat.max_eq_right z] at e
      · rw [Nat.min_eq_right z, Nat.max_eq_left z] at e
        rw [TR.pr_comm, e, TR.pr_comm]
  · intro h q hq
    rcases List.mem_append.mp hq with z | z
    · obtain ⟨a, _, rfl⟩ := List.mem_map.mp z
      rw [only_one, only_one]
      exact h a a ((td_ok T).r a)
    · obtain ⟨a, b, rfl, hab, _⟩ := G.ti q z
      rw [only_two, only_two]
      refine h a b ?_
      unfold tiedB
      rw [Nat.min_eq_left (Nat.le_of_lt hab), Nat.max_eq_right (Nat.le_of_lt hab), decide_eq_true z, Bool.or_true]
theorem eqv_parts (u v : List Nat) : ∀ ps : List (List Nat), PyData.eqvAll (ps.map fun q => PyData.tuple [.str (S q), .str (S (only u q))]) (ps.map fun q => PyData.tuple [.str (S q), .str (S (only v q))]) = ps.all fun q => decide (only u q = only v q)
  | [] => rfl
  | q :: ps => by
    show (PyData.eqv (.tuple [tD q, tD (only u q)]) (.tuple [tD q, tD (only v q)]) && PyData.eqvAll _ _) = _
    rw [List.all_cons, eqv_parts u v ps]
    congr 1
    show (PyData.eqv (tD q) (tD q) && (PyData.eqv (tD (only u q)) (tD (only v q)) && true)) = _
    rw [eqv_t, eqv_t, decide_eq_true rfl, Bool.true_and, Bool.and_true]
theorem eqv_told {L : List Nat} {T : List (List Nat)} (G : Ground L T) {u v : List Nat} (hu : ∀ c ∈ u, c ∈ L) (hv : ∀ c ∈ v, c ∈ L) : PyData.eqv (toldD L T u) (toldD L T v) = true ↔ TR.Heq (tiedB T) u v := by
  rw [← told_iff G hu hv]
  show PyData.eqvAll _ _ = true ↔ _
  rw [eqv_parts, List.all_eq_true]
  constructor
  · intro h q hq
    exact of_decide_eq_true (h q hq)
  · intro h q hq
    exact decide_eq_true (h q hq)
theorem getI_map {α β : Type} {l : List α} {f : α → β} {i : Nat} {x : β} {a : α} (hx : (l.map f)[i]? = some x) (ha : l[i]? = some a) : x = f a := by
  rw [List.getElem?_map, ha] at hx
  exact (Option.some.inj hx).symm
end HW
namespace HW
open PySem L2 PyProof.Rows
theorem e_empty : (Str.ofString "" : Str) = S [] := by decide +kernel
def spTied : Sp := fun vs H Q _ => ∃ (g : Addr) (L : List Nat) (T : List (List Nat)) (a b : Nat), vs = [.ref g, chV a, chV b] ∧ Ground L T ∧ GAt H g L T ∧ Q (.bl (tiedB T a b)) H
def spTold (K : PySem.W.Frag) : Sp := fun vs H Q _ => ∃ (g : Addr) (L : List Nat) (T : List (List Nat)) (v : List Nat), vs = [.ref g, tx v] ∧ Ground L T ∧ GAt H g L T ∧ v.length ≤ 1000 ∧
  ∀ p xs H', Same H H' → H' p = some (.tup xs) → DV K H' (.ref p) (toldD L T v) → Q (.ref p) H'
theorem ch_dec (a b : Nat) : decide (chV a = chV b) = decide (a = b) := by
  by_cases e : a = b
  · subst e; simp
  · rw [decide_eq_false e]
    refine decide_eq_false fun z => e ?_
    have z1 : S [a] = S [b] := V.str.inj z
    have := S_inj z1
    simpa using this
def RelP (v : List Nat) (x y : V) (H : Hp) : Prop := ∃ q p, x = tx q ∧ y = .ref p ∧ H p = some (.tup [tx q, tx (HW.only v q)])
theorem relP_mono (v : List Nat) : ∀ x y H H', RelP v x y H → (∀ b ys, H b = some (.tup ys) → H' b = some (.tup ys)) → RelP v x y H' := by
  rintro x y H H' ⟨q, p, e1, e2, h⟩ k
  exact ⟨q, p, e1, e2, k p _ h⟩
theorem dvs_parts {K : PySem.W.Frag} {H : Hp} {v : List Nat} : ∀ {ps : List (List Nat)} {ys : List V}, Paired (fun x y => RelP v x y H) (ps.map tx) ys → DVs K H ys (ps.map fun q => PyData.tuple [.str (S q), .str (S (HW.only v q))])
  | [], ys, h => by
    rw [List.map_nil] at h
    cases h
    exact .nil
  | q :: ps, ys, h => by
    rw [List.map_cons] at h
    cases h with
    | cons r t =>
      obtain ⟨q', p, e1, e2, hp⟩ := r
      have e : q = q' := S_inj (V.str.inj e1)
      subst e
      subst e2
      exact .cons (.tup (SqT.of hp) (.cons (.str _) (.cons (.str _) .nil))) (dvs_parts t)
theorem min_ch (a b : Nat) : (if (S [b]).cps.toList < (S [a]).cps.toList then S [b] else S [a]) = S [min a b] := by
  rw [S_cps, S_cps]
  by_cases h : b < a
  · rw [if_pos (show ([b] : List Nat) < [a] from List.Lex.rel h)]
    have : min a b = b := by omega
    rw [this]
  · have hn : ¬ ([b] : List Nat) < [a] := fun z => by
      cases z with
      | rel y => exact h y
      | cons y => cases y
    rw [if_neg hn]
    have : min a b = a := by omega
    rw [this]
theorem max_ch (a b : Nat) : (if (S [a]).cps.toList < (S [b]).cps.toList then S [b] else S [a]) = S [max a b] := by
  rw [S_cps, S_cps]
  by_cases h : a < b
  · rw [if_pos (show ([a] : List Nat) < [b] from List.Lex.rel h)]
    have : max a b = b := by omega
    rw [this]
  · have hn : ¬ ([a] : List Nat) < [b] := fun z => by
      cases z with
      | rel y => exact h y
      | cons y => cases y
    rw [if_neg hn]
    have : max a b = a := by omega
    rw [this]
theorem left_read {J : It} {v l : List Nat} {H1 : Hp} {D : Addr} {Q : VK} {σ : L2.St} {fr : List Nat} {tt : TT} {te : TE} (Y : Yields J (v.map chV) H1) (hD : H1 D = none) (hv : v.length ≤ 1000)
    (ht : ∀ c H' (Qb : Bool → Hp → Prop), Qb (decide (c ∈ l)) H' → tt (some (chV c) :: fr.map fun i => (σ[i]?).join) H' Qb) (he : ∀ c H' (Qv : VK), Qv (chV c) H' → te (some (chV c) :: fr.map fun i => (σ[i]?).join) H' Qv)
    (hQ : ∀ H', Same H1 H' → H' D = some (.lst (((HW.only v l).map fun c => S [c]).map V.str)) → Q (.ref D) H') :
    CompW J 1 fr (gName 0) tt te σ H1 D Q := by
  have isC : ∀ (i : Nat) x, (v.map chV)[i]? = some x → ∃ c, x = chV c := fun i x hx => by
    rw [List.getElem?_map] at hx
    cases e : v[i]? with
    | none => rw [e] at hx; cases hx
    | some c => rw [e] at hx; exact ⟨c, (Option.some.inj hx).symm⟩
  refine comp_map Y hD (by rw [List.length_map]; exact small (by omega)) (fun x => match x with | .str z => decide (z.cps.toList.headD 0 ∈ l) | _ => false) (fun x => x) (fun i x H' Qb hx sm k => ?_) (fun i x H' Qv hx _ sm k => ?_) fun H' sm hd => hQ H' sm ?_
  · obtain ⟨c, rfl⟩ := isC i x hx
    exact ht c H' Qb (k H' (Same.refl _))
  · obtain ⟨c, rfl⟩ := isC i x hx
    exact he c H' Qv (k H' (Same.refl _))
  · rw [hd]
    congr 2
    have : ∀ v : List Nat, ((v.map chV).filter fun x => match x with | .str z => decide (z.cps.toList.headD 0 ∈ l) | _ => false) = ((HW.only v l).map fun c => S [c]).map V.str := by
      intro v
      unfold HW.only
      induction v with
      | nil => rfl
      | cons c v ih =>
        rw [List.map_cons, List.filter_cons, List.filter_cons]
        have e : (match chV c with | .str z => decide (z.cps.toList.headD 0 ∈ l) | _ => false) = decide (c ∈ l) := rfl
        rw [e, ih]
        cases decide (c ∈ l) <;> rfl
    rw [this]
    exact (List.map_id' _)
theorem only_le (v l : List Nat) : (HW.only v l).length ≤ v.length := List.length_filter_le _ _
theorem parts_map (L : List Nat) (T : List (List Nat)) : signsV (S L) ++ T.map tx = (parts L T).map tx := by
  rw [signsV_S]
  unfold parts
  rw [List.map_append, List.map_map]
  rfl
theorem parts_len {L : List Nat} {T : List (List Nat)} (G : Ground L T) : (parts L T).length ≤ 30 := by
  unfold parts
  rw [List.length_append, List.length_map]
  have := G.le.l5
  have := G.tl
  omega
end HW
namespace HW
open PySem L2 PyProof.Rows
theorem e_abc : (Str.ofString "abcdefghijklmnopqrstuvwxyz" : Str) = S abc := by decide +kernel
def spCell (K : PySem.W.Frag) : Sp := fun vs H Q _ => ∃ (a : Addr) (ns : List Int) (k : Int), vs = [.ref a, .int k] ∧ SqL K H a (ns.map V.int) ∧ 0 ≤ k ∧ Q (.int ((ns[k.toNat]?).getD 0)) H
def spMix : Sp := fun vs H Q _ => ∃ c p n : Int, vs = [.int c, .int p, .int n] ∧ 0 < p ∧ 0 < n ∧ Q (.int (c * 48271 % p % n)) H
def spLetters (K : PySem.W.Frag) : Sp := fun vs H Q _ => ∃ (a : Addr) (ns : List Int), vs = [.ref a] ∧ SqL K H a (ns.map V.int) ∧ ∀ L H', Same H H' → 1 ≤ H'.clk → Letters L → Q (tx L) H'
def spGround (K : PySem.W.Frag) : Sp := fun vs H Q _ => ∃ (a : Addr) (ns : List Int), vs = [.ref a] ∧ SqL K H a (ns.map V.int) ∧ ∀ L T g H', Same H H' → Ground L T → GAt H' g L T → Q (.ref g) H'
def spWord : Sp := fun vs H Q _ => ∃ (L : List Nat) (seed most : Int), vs = [tx L, .int seed, .int most] ∧ 1 ≤ L.length ∧ L.length ≤ 1000 ∧ 0 ≤ most ∧ most ≤ 1000 ∧ ∀ w H', Same H H' → (∀ c ∈ w, c ∈ L) → (w.length : Int) ≤ most → Q (tx w) H'
theorem erase_map {α β : Type} (f : α → β) : ∀ (l : List α) (k : Nat), (l.map f).eraseIdx k = (l.eraseIdx k).map f
  | [], _ => rfl
  | _ :: _, 0 => rfl
  | x :: l, k + 1 => by rw [List.map_cons, List.eraseIdx_cons_succ, List.eraseIdx_cons_succ, List.map_cons, erase_map f l k]
theorem mix_bounds (c p n : Int) (hn : 0 < n) : 0 ≤ c * 48271 % p % n ∧ c * 48271 % p % n < n := ⟨Int.emod_nonneg _ (by omega), Int.emod_lt_of_pos _ hn⟩
theorem lt_pair {a b c d : Nat} (h : a < c ∨ (a = c ∧ b < d)) : ([a, b] : List Nat) < [c, d] := by
  rcases h with h | ⟨h1, h2⟩
  · exact List.Lex.rel h
  · subst h1
    exact List.Lex.cons (List.Lex.rel h2)
theorem before {L : List Nat} (up : L.Pairwise (· < ·)) {k : Nat} {c : Nat} (hc : L[k]? = some c) : (∀ a ∈ L.take k, a < c) ∧ ∀ b ∈ L.drop (k + 1), c < b := by
  have hk : k < L.length := (List.getElem?_eq_some_iff.mp hc).1
  have e : L = L.take k ++ (c :: L.drop (k + 1)) := by
    have e1 := (List.take_append_drop k L).symm
    rw [List.drop_eq_getElem_cons hk] at e1
    have e2 : L[k] = c := (List.getElem?_eq_some_iff.mp hc).2
    rw [e2] at e1
    exact e1
  rw [e, List.pairwise_append] at up
  obtain ⟨_, h2, h3⟩ := up
  exact ⟨fun a ha => h3 a ha c List.mem_cons_self, (List.pairwise_cons.mp h2).1⟩
structure Sofar (L : List Nat) (k n : Nat) (T : List (List Nat)) : Prop where
  ti : ∀ q ∈ T, ∃ a b, q = [a, b] ∧ a < b ∧ b ∈ L ∧ (a ∈ L.take k ∨ (L[k]? = some a ∧ b ∈ (L.drop (k + 1)).take n))
  tu : T.Pairwise (· < ·)
  tl : T.length ≤ 5 * k + n
theorem Sofar.more {L : List Nat} {k n : Nat} {T : List (List Nat)} (h : Sofar L k n T) : Sofar L k (n + 1) T :=
  ⟨fun q hq => by
    obtain ⟨a, b, e, h1, h2, h3⟩ := h.ti q hq
    refine ⟨a, b, e, h1, h2, h3.imp id fun z => ⟨z.1, ?_⟩⟩
    exact (List.take_sublist_take_left (Nat.le_succ n)).subset z.2, h.tu, by have := h.tl; omega⟩
theorem Sofar.next {L : List Nat} {k n : Nat} {T : List (List Nat)} (h : Sofar L k n T) (hn : n ≤ 5) (hk : k < L.length) : Sofar L (k + 1) 0 T :=
  ⟨fun q hq => by
    obtain ⟨a, b, e, h1, h2, h3⟩ := h.ti q hq
    refine ⟨a, b, e, h1, h2, .inl ?_⟩
    rcases h3 with z | z
    · exact (List.take_sublist_take_left (Nat.le_succ k)).subset z
    · rw [List.take_add_one, z.1]
      exact List.mem_append_right _ (by simp), h.tu, by have := h.tl; omega⟩
theorem Sofar.add {L : List Nat} {k n : Nat} {T : List (List Nat)} (up : L.Pairwise (· < ·)) (h : Sofar L k n T) {c d : Nat} (hc : L[k]? = some c) (hd : (L.drop (k + 1))[n]? = some d) : Sofar L k (n + 1) (T ++ [[c, d]]) := by
  obtain ⟨b1, b2⟩ := before up hc
  have hdm : d ∈ L.drop (k + 1) := List.mem_of_getElem? hd
  have up2 : (L.drop (k + 1)).Pairwise (· < ·) := up.sublist (List.drop_sublist _ _)
  obtain ⟨c1, _⟩ := before up2 hd
  refine ⟨fun q hq => ?_, ?_, ?_⟩
  · rcases List.mem_append.mp hq with z | z
    · exact h.more.ti q z
    · have e : q = [c, d] := by simpa using z
      refine ⟨c, d, e, b2 d hdm, List.mem_of_mem_drop hdm, .inr ⟨hc, ?_⟩⟩
      rw [List.take_add_one, hd]
      exact List.mem_append_right _ (by simp)
  · rw [List.pairwise_append]
    refine ⟨h.tu, List.pairwise_singleton _ _, fun q hq z hz => ?_⟩
    have e : z = [c, d] := by simpa using hz
    obtain ⟨a, b, e1, h1, h2, h3⟩ := h.ti q hq
    rw [e, e1]
    rcases h3 with y | y
    · exact lt_pair (.inl (b1 a y))
    · have e2 : a = c := Option.some.inj (y.1.symm.trans hc)
      exact lt_pair (.inr ⟨e2, c1 b y.2⟩)
  · rw [List.length_append]
    have := h.tl
    show T.length + 1 ≤ _
    omega
end HW
namespace HW
open PySem L2 PyProof.Rows
def spLaw (K : PySem.W.Frag) : Sp := fun vs H Q _ => ∃ (a : Addr) (ns : List Int), vs = [.ref a] ∧ SqL K H a (ns.map V.int) ∧ ns.length ≤ 63 ∧ ∀ H', Q (.bl true) H'
def spPlain : Sp := fun vs H Q _ => ∃ (g : Addr) (L : List Nat) (T : List (List Nat)) (w : List Nat), vs = [.ref g, tx w] ∧ Ground L T ∧ GAt H g L T ∧ (∀ c ∈ w, c ∈ L) ∧ w.length ≤ 60 ∧ ∀ H', Same H H' → Q (tx (TR.pl (tiedB T) w)) H'
theorem tx_dec (a b : List Nat) : decide (tx a = tx b) = decide (a = b) := by
  by_cases h : a = b
  · subst h; simp
  · rw [decide_eq_false h]
    exact decide_eq_false fun z => h (S_inj (V.str.inj z))
theorem iteNT {A B : Prop} {a b : List Nat} (h : a = b) (hB : B) : if (!decide (tx a = tx b)) = true then A else B := by
  subst h
  exact iteNS rfl hB
end HW
namespace HW
open PySem L2 PyProof.Rows
end HW
namespace HW
open PySem L2 PyProof.Rows
abbrev oV (n c : Nat) : V := .old (S [c]) 1 n
theorem front_le {td : Nat → Nat → Bool} {F w : List Nat} (up : F.Pairwise (· < ·)) (hF : ∀ a, a ∈ F ↔ TR.Fr td a w) : F.length ≤ w.length :=
  TR.nodup_len_le (up.imp fun h => Nat.ne_of_lt h) fun a ha => ((hF a).mp ha).mem
end HW
namespace HW
open PySem L2 PyProof.Rows
structure Com (td : Nat → Nat → Bool) (u v c : List Nat) : Prop where
  le : TR.Least td c
  ex : ∃ x y, TR.Heq td (c ++ x) u ∧ TR.Heq td (c ++ y) v ∧ TR.Dis td x y
theorem Com.max {td : Nat → Nat → Bool} (Td : TR.Td td) {u v c d : List Nat} (h : Com td u v c) (h1 : TR.Beg td d u) (h2 : TR.Beg td d v) : TR.Beg td d c := by
  obtain ⟨x, y, hx, hy, di⟩ := h.ex
  exact TR.common_max Td hx hy di h1 h2
theorem Com.beg {td : Nat → Nat → Bool} {u v c : List Nat} (h : Com td u v c) : TR.Beg td c u ∧ TR.Beg td c v := by
  obtain ⟨x, y, hx, hy, _⟩ := h.ex
  exact ⟨⟨x, hx⟩, ⟨y, hy⟩⟩
theorem Com.swap {td : Nat → Nat → Bool} (Td : TR.Td td) {u v c d : List Nat} (h : Com td u v c) (k : Com td v u d) : d = c :=
  TR.least_one Td ((h.max Td k.beg.2 k.beg.1).anti Td (k.max Td h.beg.2 h.beg.1)) k.le h.le
end HW
namespace HW
open PySem L2 PyProof.Rows
def spCount : Sp := fun vs H Q _ => ∃ (g : Addr) (L : List Nat) (T : List (List Nat)) (w : List Nat), vs = [.ref g, tx w] ∧ Ground L T ∧ GAt H g L T ∧ (∀ c ∈ w, c ∈ L) ∧ w.length ≤ 12 ∧
  ∀ H', Same H H' → Q (.int (TR.cnt (tiedB T) w : Nat)) H'
theorem iteNI {A B : Prop} {a b : Int} (h : a = b) (hB : B) : if (!decide (V.int a = V.int b)) = true then A else B := by
  subst h
  exact iteNS rfl hB
theorem front_sum {td : Nat → Nat → Bool} (Td : TR.Td td) {F w : List Nat} (up : F.Pairwise (· < ·)) (hF : ∀ a, a ∈ F ↔ TR.Fr td a w) (hw : w ≠ []) : (F.map fun a => TR.cnt td (w.erase a)).sum = TR.cnt td w := by
  have hp : F.Perm (TR.firsts td w) := (List.perm_ext_iff_of_nodup (up.imp fun h => Nat.ne_of_lt h) (TR.nodup_firsts Td w)).mpr fun a => by rw [hF, TR.mem_firsts Td]
  rw [TR.cnt_rec Td hw, (hp.map fun a => TR.cnt td (w.erase a)).sum_nat]
end HW
namespace HW
open PySem L2 PyProof.Rows
theorem pl_step {td : Nat → Nat → Bool} (Td : TR.Td td) {v : List Nat} (hv : v ≠ []) : TR.pl td v = TR.lst (TR.firsts td v) :: TR.pl td (v.erase (TR.lst (TR.firsts td v))) := by
  obtain ⟨b, v', rfl⟩ : ∃ b v', v = b :: v' := by
    cases v with
    | nil => exact absurd rfl hv
    | cons b v' => exact ⟨b, v', rfl⟩
  have f := (TR.mem_firsts Td).mp (TR.lst_mem (TR.firsts_ne Td hv))
  have hl : ((b :: v').erase (TR.lst (TR.firsts td (b :: v')))).length = v'.length := by rw [List.length_erase_of_mem f.mem]; rfl
  unfold TR.pl
  rw [hl]
  rfl
def lenAt (i : Nat) (σ : L2.St) (_ : Hp) : Nat := match σ[i]? with
  | some (some (.str x)) => x.length
  | _ => 0
theorem lst_eq {l : List Nat} {m : Nat} (hm : m ∈ l) (h : ∀ b ∈ l, m ≤ b) : m = TR.lst l := by
  have hne : l ≠ [] := fun z => by rw [z] at hm; cases hm
  exact Nat.le_antisymm (h _ (TR.lst_mem hne)) (TR.lst_le hm)
end HW
namespace HW
end HW
namespace HW
open PySem L2 PyProof.Rows
theorem S_cps' {l : List Nat} {i : Nat} : (S l).cps[i]? = l[i]? := by simp
def anyT (T : List (List Nat)) (u v : List Nat) : Bool := u.any fun a => v.any fun b => tiedB T a b
def spAny : Sp := fun vs H Q _ => ∃ (g : Addr) (L : List Nat) (T : List (List Nat)) (u v : List Nat), vs = [.ref g, tx u, tx v] ∧ Ground L T ∧ GAt H g L T ∧ ∀ H', Same H H' → Q (.bl (anyT T u v)) H'
def spIsFirst : Sp := fun vs H Q _ => ∃ (g : Addr) (L : List Nat) (T : List (List Nat)) (x y : List Nat) (c : Nat), vs = [.ref g, tx (x ++ c :: y), chV c] ∧ Ground L T ∧ GAt H g L T ∧ c ∉ x ∧ (x ++ c :: y).length ≤ 60 ∧ ∀ H', Same H H' → Q (.bl (!anyT T x [c])) H'
def spWithout : Sp := fun vs H Q _ => ∃ (x y : List Nat) (c n : Nat), vs = [tx (x ++ c :: y), oV n c] ∧ n ≤ H.clk ∧ 1 ≤ H.clk ∧ c ∉ x ∧ (x ++ c :: y).length ≤ 60 ∧ ∀ H', Same H H' → Q (tx (x ++ y)) H'
def spFirsts : Sp := fun vs H Q _ => ∃ (g : Addr) (L : List Nat) (T : List (List Nat)) (w : List Nat), vs = [.ref g, tx w] ∧ Ground L T ∧ GAt H g L T ∧ w.length ≤ 60 ∧
  ∀ (l : Addr) (F : List Nat) (n : Nat) (H' : Hp), Same H H' → H l = none → H' l = some (.lst (F.map (oV n))) → n ≤ H'.clk → F.Pairwise (· < ·) → (∀ a, a ∈ F ↔ TR.Fr (tiedB T) a w) → Q (.ref l) H'
theorem anyT_snoc (T : List (List Nat)) (u v : List Nat) (a : Nat) : anyT T (u ++ [a]) v = (anyT T u v || v.any fun b => tiedB T a b) := by
  unfold anyT
  rw [List.any_append, List.any_cons, List.any_nil, Bool.or_false]
theorem anyT_one {T : List (List Nat)} {x : List Nat} {c : Nat} : anyT T x [c] = false ↔ ∀ a ∈ x, tiedB T c a = false := by
  unfold anyT
  rw [List.any_eq_false]
  constructor
  · intro h a ha
    have := h a ha
    rw [List.any_cons, List.any_nil, Bool.or_false] at this
    rw [(td_ok T).s]
    exact Bool.eq_false_iff.mpr this
  · intro h a ha
    rw [List.any_cons, List.any_nil, Bool.or_false, (td_ok T).s, h a ha]
    exact Bool.false_ne_true
theorem fr_first {T : List (List Nat)} {x y : List Nat} {c : Nat} (hx : c ∉ x) : (!anyT T x [c]) = true ↔ TR.Fr (tiedB T) c (x ++ c :: y) := by
  rw [Bool.not_eq_true', anyT_one]
  constructor
  · exact fun h => ⟨x, y, rfl, h⟩
  · rintro ⟨x', y', e, h⟩
    have hx' : c ∉ x' := fun z => by have := h c z; rw [(td_ok T).r] at this; cases this
    have : x = x' := by
      clear h
      induction x generalizing x' with
      | nil =>
        cases x' with
        | nil => rfl
        | cons a x' =>
          rw [List.nil_append, List.cons_append] at e
          injection e with e1 _
          exact absurd (e1 ▸ List.mem_cons_self) hx'
      | cons a x ih =>
        cases x' with
        | nil =>
          rw [List.nil_append, List.cons_append] at e
          injection e with e1 _
          exact absurd (e1 ▸ List.mem_cons_self) hx
        | cons b x' =>
          rw [List.cons_append, List.cons_append] at e
          injection e with e1 e2
          rw [e1, ih (fun z => hx (List.mem_cons_of_mem _ z)) x' e2 fun z => hx' (List.mem_cons_of_mem _ z)]
    rw [this]
    exact h
theorem set_codes {ss : List Str} {w : List Nat} (nd : ss.Nodup) (hm : ∀ y, y ∈ ss ↔ ∃ c, c ∈ (S w).cps.toList ∧ (⟨#[c]⟩ : Str) = y) : ∃ fd : List Nat, ss = (fd.map fun c => S [c]) ∧ fd.Nodup ∧ ∀ c, c ∈ fd ↔ c ∈ w := by
  have hS : ∀ y ∈ ss, S [y.cps.getD 0 0] = y := fun y hy => by
    obtain ⟨c, _, rfl⟩ := (hm y).mp hy
    rfl
  refine ⟨ss.map fun y => y.cps.getD 0 0, ?_, ?_, fun c => ?_⟩
  · rw [List.map_map]
    conv => lhs; rw [← List.map_id ss]
    exact List.map_congr_left fun y hy => (hS y hy).symm
  · clear hm
    induction ss with
    | nil => exact List.nodup_nil
    | cons y ss ih =>
      rw [List.nodup_cons] at nd
      rw [List.map_cons, List.nodup_cons]
      refine ⟨fun z => ?_, ih nd.2 fun a ha => hS a (List.mem_cons_of_mem _ ha)⟩
      obtain ⟨y', h1, h2⟩ := List.mem_map.mp z
      have e1 := hS y List.mem_cons_self
      have e2 := hS y' (List.mem_cons_of_mem _ h1)
      rw [← e1, ← h2, e2] at nd
      exact nd.1 h1
  · constructor
    · intro hc
      obtain ⟨y, hy, rfl⟩ := List.mem_map.mp hc
      obtain ⟨d, hd, rfl⟩ := (hm y).mp hy
      rw [S_cps] at hd
      exact hd
    · intro hc
      exact List.mem_map.mpr ⟨S [c], (hm _).mpr ⟨c, by rw [S_cps]; exact hc, rfl⟩, rfl⟩
theorem up_head {F v : List Nat} {td : Nat → Nat → Bool} (Td : TR.Td td) (up : F.Pairwise (· < ·)) (hF : ∀ a, a ∈ F ↔ TR.Fr td a v) (hv : v ≠ []) : ∃ F', F = TR.lst (TR.firsts td v) :: F' := by
  cases F with
  | nil =>
    have := (hF _).mpr ((TR.mem_firsts Td).mp (TR.lst_mem (TR.firsts_ne Td hv)))
    cases this
  | cons m F' =>
    refine ⟨F', ?_⟩
    rw [lst_eq (l := TR.firsts td v) (m := m) ((TR.mem_firsts Td).mpr ((hF m).mp List.mem_cons_self)) fun b hb => ?_]
    have hb' := (hF b).mpr ((TR.mem_firsts Td).mp hb)
    rcases List.mem_cons.mp hb' with z | z
    · exact Nat.le_of_eq z.symm
    · exact Nat.le_of_lt ((List.pairwise_cons.mp up).1 b z)
theorem cut_at {w : List Nat} {c : Nat} (h : c ∈ w) : ∃ x y, w = x ++ c :: y ∧ c ∉ x ∧ w.erase c = x ++ y := by
  obtain ⟨x, y, n, e, z⟩ := List.exists_erase_eq h
  exact ⟨x, y, e, n, z⟩
theorem same_put {H H1 : Hp} {l : Addr} (hl : H l = none) (s : Same H H1) (o : HO) : Same H (upd H1 l o) := ⟨fun b u z => by rw [upd_ne (ne_of_none z hl)]; exact s b u z, s.ck⟩
theorem Com.step {td : Nat → Nat → Bool} (Td : TR.Td td) {u v c : List Nat} {m : Nat} (fu : TR.Fr td m u) (fv : TR.Fr td m v) (hm : ∀ b, TR.Fr td b u → TR.Fr td b v → m ≤ b) (h : Com td (u.erase m) (v.erase m) c) : Com td u v (m :: c) := by
  obtain ⟨x, y, hx, hy, di⟩ := h.ex
  have eu : TR.Heq td (m :: c ++ x) u := (hx.cons m).trans (fu.off Td).symm
  have ev : TR.Heq td (m :: c ++ y) v := (hy.cons m).trans (fv.off Td).symm
  refine ⟨TR.least_cons Td h.le fun b fb => hm b ?_ ?_, x, y, eu, ev, di⟩
  · exact ((TR.fr_app Td).mpr (.inl fb)).heq Td eu
  · exact ((TR.fr_app Td).mpr (.inl fb)).heq Td ev
theorem Com.stop {td : Nat → Nat → Bool} {u v : List Nat} (h : ∀ a, TR.Fr td a u → TR.Fr td a v → False) : Com td u v [] := ⟨TR.least_nil, u, v, TR.Heq.refl _ _, TR.Heq.refl _ _, h⟩
end HW
namespace L2
open PySem PySem.Spec PyProof.Rows
section
variable {κ : Type} [DecidableEq κ]
def valV (kvs : List (κ × V)) (k : κ) : Option V := (kvs.find? fun kv => decide (kv.1 = k)).map (·.2)
def putK (kvs : List (κ × V)) (k : κ) (v : V) : List (κ × V) :=
  if (kvs.any fun kv => decide (kv.1 = k)) = true then kvs.map (fun kv => if kv.1 = k then (kv.1, v) else kv) else kvs ++ [(k, v)]
def dropK (kvs : List (κ × V)) (k : κ) : List (κ × V) := kvs.filter fun kv => decide (kv.1 ≠ k)
theorem valV_pos {p : κ × V} {r : List (κ × V)} {k : κ} (e : p.1 = k) : valV (p :: r) k = some p.2 := by simp [valV, List.find?_cons, e]
theorem valV_neg {p : κ × V} {r : List (κ × V)} {k : κ} (e : ¬ p.1 = k) : valV (p :: r) k = valV r k := by simp [valV, List.find?_cons, e]
theorem valV_any (k : κ) : ∀ kvs : List (κ × V), (kvs.any fun kv => decide (kv.1 = k)) = (valV kvs k).isSome
  | [] => rfl
  | p :: r => by
    rw [List.any_cons]
    by_cases e : p.1 = k
    · simp only [valV_pos e, decide_eq_true e, Bool.true_or, Option.isSome_some]
    · rw [valV_neg e, decide_eq_false e, Bool.false_or]; exact valV_any k r
theorem length_putK (kvs : List (κ × V)) (k : κ) (v : V) : (putK kvs k v).length ≤ kvs.length + 1 := by
  unfold putK
  split
  · rw [List.length_map]; omega
  · rw [List.length_append, List.length_cons, List.length_nil]; omega
theorem putK_new {kvs : List (κ × V)} {k : κ} (v : V) (h : valV kvs k = none) : putK kvs k v = kvs ++ [(k, v)] := by
  unfold putK
  rw [valV_any, h]
  exact if_neg (by decide)
theorem RelO.isSome_eq {o : Option V} {u : Option Value} (r : RelO o u) : o.isSome = u.isSome := by
  cases o with
  | none => cases u with
    | none => rfl
    | some _ => exact (show False from r).elim
  | some _ => cases u with
    | none => exact (show False from r).elim
    | some _ => rfl
theorem RelO.getD {o : Option V} {u : Option Value} {d : V} {d' : Value} (r : RelO o u) (rd : RelV d d') : RelV (o.getD d) (u.getD d') := by
  cases o with
  | none => cases u with
    | none => exact rd
    | some _ => exact (show False from r).elim
  | some _ => cases u with
    | none => exact (show False from r).elim
    | some _ => exact r
theorem KV.val {kvs : List (κ × V)} {vs : List (κ × Value)} (r : KV kvs vs) (k : κ) : RelO (valV kvs k) (valueAt vs k) := by
  unfold KV at r
  induction r with
  | nil => exact True.intro
  | @cons p q ps qs h t ih =>
    obtain ⟨h1, h2⟩ := h
    by_cases e : p.1 = k
    · have e' : q.1 = k := h1.symm.trans e
      have b : valueAt (q :: qs) k = some q.2 := by simp [valueAt, List.find?_cons, e']
      rw [valV_pos e, b]; exact h2
    · have e' : ¬ q.1 = k := fun z => e (h1.trans z)
      have b : valueAt (q :: qs) k = valueAt qs k := by simp [valueAt, List.find?_cons, e']
      rw [valV_neg e, b]; exact ih
theorem KV.any {kvs : List (κ × V)} {vs : List (κ × Value)} (r : KV kvs vs) (k : κ) : (kvs.any fun kv => decide (kv.1 = k)) = vs.any fun kv => decide (kv.1 = k) := by
  unfold KV at r
  induction r with
  | nil => rfl
  | cons h t ih => rw [List.any_cons, List.any_cons, ih, h.1]
theorem KV.repl {kvs : List (κ × V)} {vs : List (κ × Value)} (r : KV kvs vs) (k : κ) {y : V} {u : Value} (ry : RelV y u) :
    KV (kvs.map fun kv => if kv.1 = k then (kv.1, y) else kv) (vs.map fun kv => if kv.1 = k then (kv.1, u) else kv) := by
  unfold KV at r ⊢
  induction r with
  | nil => exact .nil
  | @cons p q ps qs h t ih =>
    rw [List.map_cons, List.map_cons]
    refine .cons ?_ ih
    obtain ⟨h1, h2⟩ := h
    by_cases e : p.1 = k
    · rw [if_pos e, if_pos (h1.symm.trans e)]; exact ⟨h1, ry⟩
    · rw [if_neg e, if_neg (fun z => e (h1.trans z))]; exact ⟨h1, h2⟩
theorem KV.put {kvs : List (κ × V)} {vs : List (κ × Value)} (r : KV kvs vs) (k : κ) {y : V} {u : Value} (ry : RelV y u) : KV (putK kvs k y) (stored vs k u) := by
  unfold putK stored
  rw [r.any k]
  by_cases e : (vs.any fun kv => decide (kv.1 = k)) = true
  · rw [if_pos e, if_pos e]; exact r.repl k ry
  · rw [if_neg e, if_neg e]; exact Paired.snoc r ⟨rfl, ry⟩
theorem KV.drop {kvs : List (κ × V)} {vs : List (κ × Value)} (r : KV kvs vs) (k : κ) : KV (dropK kvs k) (without vs k) := by
  unfold KV at r ⊢
  unfold dropK without
  induction r with
  | nil => exact .nil
  | @cons p q ps qs h t ih =>
    obtain ⟨h1, h2⟩ := h
    rw [List.filter_cons, List.filter_cons]
    by_cases e : p.1 = k
    · have a : ¬ decide (p.1 ≠ k) = true := by simp [e]
      have b : ¬ decide (q.1 ≠ k) = true := by simp [h1.symm.trans e]
      rw [if_neg a, if_neg b]; exact ih
    · have e' : ¬ q.1 = k := fun z => e (h1.trans z)
      have a : decide (p.1 ≠ k) = true := by simp [e]
      have b : decide (q.1 ≠ k) = true := by simp [e']
      rw [if_pos a, if_pos b]; exact .cons ⟨h1, h2⟩ ih
theorem KV.keys {kvs : List (κ × V)} {vs : List (κ × Value)} (r : KV kvs vs) : kvs.map (·.1) = vs.map (·.1) := by
  unfold KV at r
  induction r with
  | nil => rfl
  | cons h t ih => rw [List.map_cons, List.map_cons, ih, h.1]
theorem KV.length {kvs : List (κ × V)} {vs : List (κ × Value)} (r : KV kvs vs) : kvs.length = vs.length := Paired.length r
end
theorem kV_is {P : Program} {w : World} {k : Key} {u : Value} (r : RelV (kV k) u) : (mixKind P w).is k u = true := by
  cases k with
  | inl i => obtain ⟨t, e⟩ := (show ∃ t, u = Value.int i t from r); subst e; exact mixKind_int P w i t
  | inr x => obtain ⟨t, e⟩ := (show ∃ t, u = Value.str x t from r); subst e; exact mixKind_str P w x t
theorem items_are {P : Program} {w : World} : ∀ {ks : List Key} {us : List Value}, Vals (ks.map kV) us → ItemsAre (mixKind P w) ks us
  | [], _, r => by rw [List.map_nil] at r; cases r; exact .nil
  | k :: ks, _, r => by
    rw [List.map_cons] at r
    cases r with
    | cons h t => exact .cons (kV_is h) (items_are t)
abbrev KT (H : Hp) : List (List Key × V) → List (List Key × Addr × Value) → Prop := Paired fun p q => p.1 = q.1 ∧ H q.2.1 = some (.tup (p.1.map kV)) ∧ RelV p.2 q.2.2
theorem KT.val {H : Hp} {kvs : List (List Key × V)} {xs : List (List Key × Addr × Value)} (r : KT H kvs xs) (k : List Key) : RelO (valV kvs k) ((atKey xs k).map (·.2)) := by
  induction r with
  | nil => exact True.intro
  | @cons p q ps qs h t ih =>
    obtain ⟨h1, _, h2⟩ := h
    by_cases e : p.1 = k
    · have e' : q.1 = k := h1.symm.trans e
      have b : atKey (q :: qs) k = some q.2 := by simp [atKey, List.find?_cons, e']
      rw [valV_pos e, b]; exact h2
    · have e' : ¬ q.1 = k := fun z => e (h1.trans z)
      have b : atKey (q :: qs) k = atKey qs k := by simp [atKey, List.find?_cons, e']
      rw [valV_neg e, b]; exact ih
theorem KT.repl {H : Hp} {kvs : List (List Key × V)} {xs : List (List Key × Addr × Value)} (r : KT H kvs xs) (k : List Key) {y : V} {u : Value} (ry : RelV y u) :
    KT H (kvs.map fun kv => if kv.1 = k then (kv.1, y) else kv) (xs.map (putAt k u)) := by
  induction r with
  | nil => exact .nil
  | @cons p q ps qs h t ih =>
    rw [List.map_cons, List.map_cons]
    refine .cons ?_ ih
    obtain ⟨h1, h2, h3⟩ := h
    unfold putAt
    by_cases e : p.1 = k
    · rw [if_pos e, if_pos (h1.symm.trans e)]; exact ⟨h1, h2, ry⟩
    · rw [if_neg e, if_neg (fun z => e (h1.trans z))]; exact ⟨h1, h2, h3⟩
theorem KT.put {H : Hp} {kvs : List (List Key × V)} {xs : List (List Key × Addr × Value)} (r : KT H kvs xs) (k : List Key) {b : Addr} {y : V} {u : Value} (hb : H b = some (.tup (k.map kV))) (ry : RelV y u) :
    KT H (putK kvs k y) (storedH xs k b u) := by
  have e : (kvs.any fun kv => decide (kv.1 = k)) = (atKey xs k).isSome := by
    rw [valV_any, (r.val k).isSome_eq, Option.isSome_map]
  unfold putK storedH
  rw [e]
  by_cases q : (atKey xs k).isSome = true
  · rw [if_pos q, if_pos q]; exact r.repl k ry
  · rw [if_neg q, if_neg q]; exact Paired.snoc r ⟨rfl, hb, ry⟩
theorem KT.keeps {H H' : Hp} {kvs : List (List Key × V)} {xs : List (List Key × Addr × Value)} (r : KT H kvs xs) (ht : ∀ b ys, H b = some (.tup ys) → H' b = some (.tup ys)) : KT H' kvs xs :=
  Paired.mapP r fun _ _ z => ⟨z.1, ht _ _ z.2.1, z.2.2⟩
section
variable {P : Program} {w : World} {H : Hp} {h : Heap} {a : Addr}
theorem rd_of {u : HO} (ok : HOk P w H h) (e : Rd H a u) : ObjOk P w H h a u := e.ok ok
theorem dk_rd {kvs : List (Key × V)} (ok : HOk P w H h) (e : Rd H a (.dK kvs)) : kvs.length ≤ sizeLine ∧ (a == sysModules) = false ∧ ∃ vs, KV kvs vs ∧ h.DictOf (mixKind P w) a vs :=
  show ObjOk P w H h a (.dK kvs) from rd_of ok e
theorem dk_of {kvs : List (Key × V)} (ok : HOk P w H h) (e : H a = some (.dK kvs)) : kvs.length ≤ sizeLine ∧ (a == sysModules) = false ∧ ∃ vs, KV kvs vs ∧ h.DictOf (mixKind P w) a vs := dk_rd ok (.inl e)
theorem key_of {ks : List Key} (ok : HOk P w H h) (e : H a = some (.tup (ks.map kV))) : (tupleKind (mixKind P w)).is h ks a := by
  obtain ⟨_, its, r, o, h1, h2, n, h3⟩ := (show ObjOk P w H h a (.tup (ks.map kV)) from ok a _ e)
  exact ⟨o, its.toArray, n, h1, h2, h3, by simpa using items_are r⟩
theorem dt_rd {kvs : List (List Key × V)} (ok : HOk P w H h) (e : Rd H a (.dT kvs)) : kvs.length ≤ sizeLine ∧ (a == sysModules) = false ∧
    ∃ xs, KT H kvs xs ∧ h.DictOfH (tupleKind (mixKind P w)) a xs := by
  obtain ⟨z, y, xs, r, o, es, ep, h1, h2, h3, h4, h5⟩ := (show ObjOk P w H h a (.dT kvs) from rd_of ok e)
  refine ⟨z, y, xs, r, o, es, ep, h1, h2, h3, h4, fun x hx => ?_, h5⟩
  have all : ∀ {l : List (List Key × V)} {m : List (List Key × Addr × Value)}, KT H l m → ∀ x ∈ m, (tupleKind (mixKind P w)).is h x.1 x.2.1 := by
    intro l m q
    induction q with
    | nil => intro x hx; exact nomatch hx
    | @cons p q ps qs hq t ih =>
      intro x hx
      rcases List.mem_cons.mp hx with e | hx
      · subst e
        exact key_of ok (by rw [← hq.1]; exact hq.2.1)
      · exact ih x hx
  exact all r x hx
theorem dt_of {kvs : List (List Key × V)} (ok : HOk P w H h) (e : H a = some (.dT kvs)) : kvs.length ≤ sizeLine ∧ (a == sysModules) = false ∧
    ∃ xs, KT H kvs xs ∧ h.DictOfH (tupleKind (mixKind P w)) a xs := dt_rd ok (.inl e)
end
def DGet (H : Hp) (a : Addr) (y : V) (r : Option V) : Prop :=
  (∃ kvs k, Rd H a (.dK kvs) ∧ y = kV k ∧ r = valV kvs k) ∨ ∃ kvs k b, Rd H a (.dT kvs) ∧ y = .ref b ∧ H b = some (.tup (k.map kV)) ∧ r = valV kvs k
def DPut (H : Hp) (a : Addr) (y v : V) (H' : Hp) : Prop :=
  (∃ kvs k, H a = some (.dK kvs) ∧ y = kV k ∧ kvs.length < sizeLine ∧ H' = upd H a (.dK (putK kvs k v))) ∨
  ∃ kvs k b, H a = some (.dT kvs) ∧ y = .ref b ∧ H b = some (.tup (k.map kV)) ∧ kvs.length < sizeLine ∧ H' = upd H a (.dT (putK kvs k v))
theorem DGet.k {H : Hp} {a : Addr} {kvs : List (Key × V)} {k : Key} (e : H a = some (.dK kvs)) : DGet H a (kV k) (valV kvs k) := .inl ⟨kvs, k, .inl e, rfl, rfl⟩
theorem DGet.t {H : Hp} {a b : Addr} {kvs : List (List Key × V)} {k : List Key} (e : H a = some (.dT kvs)) (eb : H b = some (.tup (k.map kV))) : DGet H a (.ref b) (valV kvs k) := .inr ⟨kvs, k, b, .inl e, rfl, eb, rfl⟩
theorem DPut.k {H : Hp} {a : Addr} {kvs : List (Key × V)} {k : Key} {v : V} (e : H a = some (.dK kvs)) (hl : kvs.length < sizeLine) : DPut H a (kV k) v (upd H a (.dK (putK kvs k v))) := .inl ⟨kvs, k, e, rfl, hl, rfl⟩
theorem DPut.t {H : Hp} {a b : Addr} {kvs : List (List Key × V)} {k : List Key} {v : V} (e : H a = some (.dT kvs)) (eb : H b = some (.tup (k.map kV))) (hl : kvs.length < sizeLine) :
    DPut H a (.ref b) v (upd H a (.dT (putK kvs k v))) := .inr ⟨kvs, k, b, e, rfl, eb, hl, rfl⟩
section
variable {X : Cx} {pins : List (Addr × Obj)} {σ : St} {H : Hp} {s : Shared} {a : Addr} {y v : V} {u r : Value} {o : Option V} {A : Around} {E : Value → Shared → Prop}
theorem Inv.big (I : Inv X pins σ H s) : sysModules < s.heap.objs.size := by
  have h : mainGlobals < s.heap.objs.size := (I.mod.glob.keeps I.bk).lt
  exact Nat.lt_trans (by decide) h
theorem d_getItem {Q : Value → Shared → Prop} (hu : A.units + 1 < cLine) (I : Inv X pins σ H s) (g : DGet H a y (some v)) (ry : RelV y u) (h : ∀ w' s', Inv X pins σ H s' → RelV v w' → Q w' s') :
    wpAny (model X.prog X.w) A (getItem (.ref a) u) Q E s := by
  rcases g with ⟨kvs, k, e, ey, l⟩ | ⟨kvs, k, b, e, ey, eb, l⟩
  · subst ey
    obtain ⟨z, hd, vs, rel, dd⟩ := dk_rd I.hok e
    obtain ⟨w', hw, rw'⟩ := RelO.some_of (v := v) (o := valueAt vs k) (by rw [l]; exact rel.val k)
    exact wpAny_getItem_of (kV_is ry) dd.mapOf hw (h w' _ (I.tok _) rw')
  · subst ey
    cases (show u = Value.ref b from ry)
    obtain ⟨z, hd, xs, rel, dd⟩ := dt_rd I.hok e
    obtain ⟨w', hw, rw'⟩ := RelO.some_of (v := v) (o := (atKey xs k).map (·.2)) (by rw [l]; exact rel.val k)
    obtain ⟨p, hp, hp2⟩ := Option.map_eq_some_iff.mp hw
    refine wpAny_getItem_heap (tupleKind_room_in1 hu) (key_of I.hok eb) dd hp ?_
    rw [hp2]
    exact h w' _ (I.tok _) rw'
theorem d_notIn {Q : Value → Shared → Prop} (hu : A.units + 1 < cLine) (I : Inv X pins σ H s) (g : DGet H a y o) (ry : RelV y u) (h : ∀ s', Inv X pins σ H s' → Q (.bool (!o.isSome)) s') :
    wpAny (model X.prog X.w) A (compareOp .NotIn u (.ref a)) Q E s := by
  rcases g with ⟨kvs, k, e, ey, l⟩ | ⟨kvs, k, b, e, ey, eb, l⟩
  · subst ey
    obtain ⟨z, hd, vs, rel, dd⟩ := dk_rd I.hok e
    refine wpAny_notIn_of (kV_is ry) hd dd.mapOf ?_
    rw [← (rel.val k).isSome_eq, ← l]
    exact h _ (I.tok _)
  · subst ey
    cases (show u = Value.ref b from ry)
    obtain ⟨z, hd, xs, rel, dd⟩ := dt_rd I.hok e
    refine wpAny_notIn_heap (tupleKind_room_in1 hu) (key_of I.hok eb) hd dd ?_
    have q := (rel.val k).isSome_eq
    rw [Option.isSome_map] at q
    rw [← q, ← l]
    exact h _ (I.tok _)
theorem d_write {h' : Heap} {t' : Nat} {ob : HO} (I : Inv X pins σ H s) (mu : Mut (H a)) (hs : Heap.SameBut a s.heap h') (he : ∃ q, h'.get? a = some q) (new : ObjOk X.prog X.w (upd H a ob) h' a ob) (ht : s.toks ≤ t' := by first | exact Nat.le_refl _ | exact Nat.le_succ _ | assumption | omega) :
    Inv X pins σ (upd H a ob) { s with heap := h', toks := t' } :=
  I.write (x := a) (e := a) mu (.inl rfl) (fun b q hb z => (hs.2 b hb).trans z) he new ht
theorem dk_new {P : Program} {w : World} {H' : Hp} {h' : Heap} {kvs : List (Key × V)} {vs : List (Key × Value)} (z : kvs.length ≤ sizeLine) (hd : (a == sysModules) = false) (rel : KV kvs vs) (dd : h'.DictOf (mixKind P w) a vs) :
    ObjOk P w H' h' a (.dK kvs) := ⟨z, hd, vs, rel, dd⟩
theorem d_setItem {H' : Hp} {Q : Unit → Shared → Prop} (hu : A.units + 1 < cLine) (I : Inv X pins σ H s) (g : DPut H a y v H') (ry : RelV y u) (rv : RelV v r) (h : ∀ s', Inv X pins σ H' s' → Q () s') :
    wpAny (model X.prog X.w) A (setItem (.ref a) u r) Q E s := by
  rcases g with ⟨kvs, k, e, ey, l, eH⟩ | ⟨kvs, k, b, e, ey, eb, l, eH⟩
  · subst ey eH
    obtain ⟨z, hd, vs, rel, dd⟩ := dk_of I.hok e
    have hz : vs.length ≤ sizeLine := by rw [← rel.length]; exact z
    have hl : (putK kvs k v).length ≤ sizeLine := by have := length_putK kvs k v; omega
    refine wpAny_setItem_pairs (hsz := hz) (kV_is ry) dd fun h' dd' hs => h _ ?_
    have he : ∃ q, h'.get? a = some q := let ⟨q, _, _, hq, _⟩ := dd'; ⟨q, hq⟩
    exact d_write I (by rw [e]; exact True.intro) hs he (dk_new hl hd (rel.put k rv) dd')
  · subst ey eH
    cases (show u = Value.ref b from ry)
    obtain ⟨z, hd, xs, rel, dd⟩ := dt_of I.hok e
    have hz : xs.length ≤ sizeLine := by rw [← Paired.length rel]; exact z
    have hl : (putK kvs k v).length ≤ sizeLine := by have := length_putK kvs k v; omega
    refine wpAny_setItem_heap (hsz := hz) (tupleKind_room_in1 hu) (key_of I.hok eb) dd fun h' dd' hs => h _ ?_
    obtain ⟨q, es, ep, hq, h2, h3, h4, _, h5⟩ := dd'
    refine d_write I (by rw [e]; exact True.intro) hs ⟨q, hq⟩ ⟨hl, hd, _, (rel.put k eb rv).keeps fun c ys ec => ?_, q, es, ep, hq, h2, h3, h4, h5⟩
    rw [upd_ne (ne_of ec e (fun z => nomatch z))]
    exact ec
end
section
variable {X : Cx} {pins : List (Addr × Obj)} {σ : St} {H : Hp} {s : Shared} {a : Addr} {kvs : List (Key × V)} {k : Key} {u : Value} {A : Around} {E : Value → Shared → Prop}
end
def NoSl (i : Expr) : Prop := ∀ ov iv, subscripted i false ov iv = operate [ov, iv] (getItem ov iv)
theorem subD_of {prog : Program} {w : World} {A : Around} {E : Value → Shared → Prop} {s : Shared} {env : Env} {value slice : Expr} {pos : Pos} {T id : String} {Q : Value → Shared → Prop}
    (hl : typeLookup (.type T) "__getitem__" = pure (some (.builtin id))) (hs : NoSl slice)
    (h : wpAny (model prog w) A (eval value env) (fun o s₁ => wpAny (model prog w) A (eval slice env) (fun i s₂ => s₂.TypeIs o T ∧ wpAny (model prog w) A (getItem o i) Q E s₂) E s₁) E s) :
    wpAny (model prog w) A (eval (.Subscript value slice pos) env) Q E s := by
  refine Subscript_ (wpAny_mono h (fun o s₁ h₁ => wpAny_mono h₁ (fun i s₂ h₂ => ?_) fun _ _ x => x) fun _ _ x => x)
  obtain ⟨hT, h₂⟩ := h₂
  unfold subscriptTail
  refine wpAny_bind ?_
  rw [getitemInPython_of_ne hT.not_modules]
  refine wpAny_bind (wpAny_specialOf hT hl ?_)
  have fin : wpAny (model prog w) A (subscripted slice false o i) (fun r s₃ => wpAny (model prog w) A (letTemporaryGo value o r >>= fun _ => pure r) Q E s₃) E s₂ := by
    rw [hs o i]
    exact wpAny_operating (wpAny_mono h₂ (fun r s₃ h₃ => wpAny_bind (wpAny_letTemporaryGo (wpAny_pure h₃))) fun _ _ x => x)
  first
    | exact wpAny_pure (wpAny_bind fin)
    | exact wpAny_bind (wpAny_pure (wpAny_bind fin))
    | exact wpAny_bind fin
theorem dict_typeIs {X : Cx} {pins : List (Addr × Obj)} {σ : St} {H : Hp} {s : Shared} {a : Addr} {y : V} {o : Option V} (I : Inv X pins σ H s) (g : DGet H a y o) : s.TypeIs (.ref a) "dict" := by
  rcases g with ⟨kvs, k, e, _, _⟩ | ⟨kvs, k, b, e, _, _, _⟩
  · obtain ⟨_, _, vs, _, dd⟩ := dk_rd I.hok e
    exact dd.typeIs
  · obtain ⟨_, _, xs, _, dd⟩ := dt_rd I.hok e
    exact dd.typeIs
def tDGet (td ty : TE) : TE := fun σ H Q => td σ H fun x H1 => ty σ H1 fun y H2 => ∃ a v, x = .ref a ∧ DGet H2 a y (some v) ∧ Q v H2
def sDPut (td ty tv : TE) : TS := fun D σ H => tv σ H fun v H1 => td σ H1 fun x H2 => ty σ H2 fun y H3 => ∃ a H4, x = .ref a ∧ DPut H3 a y v H4 ∧ D.nx σ H4
section
variable {X : Cx} {o i e value : Expr} {pos pos' tpos : Pos} {td ty tv : TE}
theorem pe_dget (hu : X.A.units + 1 < cLine) (ho : PE X o td) (hi : PE X i ty) (hs : NoSl i) : PE X (.Subscript o i pos) (tDGet td ty) := by
  intro pins s σ H Q I h
  refine subD_of PySem.F.slot_dict_getitem.lookup hs (thn (ho pins s σ H _ I h) fun u s1 ⟨x, H1, I1, rx, q1⟩ => thn (hi pins s1 σ H1 _ I1 q1) fun iv s2 ⟨y, H2, I2, ry, a, v, ex, g, q2⟩ => ?_)
  subst ex
  obtain rfl : u = Value.ref a := rx
  exact ⟨dict_typeIs I2 g, d_getItem hu I2 g ry fun w' s3 I3 rw' => ⟨v, H2, I3, rw', q2⟩⟩
theorem ps_dput (hu : X.A.units + 1 < cLine) (ho : PE X o td) (hi : PE X i ty) (hv : PE X value tv) (hs : swapsWith value (some (.Subscript o i pos')) pos.line X.env = pure false) :
    PS X (.Assign [.Subscript o i pos'] value pos) (sDPut td ty tv) := by
  intro pins s σ H D I h
  refine wpAny_Assign_Subscript (thn (hv pins s σ H _ I h) fun r s1 ⟨v, H1, I1, rv, q1⟩ => thn (ho pins s1 σ H1 _ I1 q1) fun u s2 ⟨x, H2, I2, rx, q2⟩ => thn (hi pins s2 σ H2 _ I2 q2) fun iv s3 ⟨y, H3, I3, ry, a, H4, ex, g, q3⟩ => ?_) hs
  subst ex
  obtain rfl : u = Value.ref a := rx
  exact d_setItem hu I3 g ry rv fun s4 I4 => ⟨σ, H4, I4, q3⟩
end
theorem dk_empty {P : Program} {w : World} {H : Hp} (h : Heap) (hb : sysModules < h.objs.size) : ObjOk P w H (h.push { cls := .type "dict", data := .dict #[] }) h.objs.size (.dK []) :=
  ⟨Nat.zero_le _, beq_eq_false_iff_ne.mpr (Ne.symm (Nat.ne_of_lt hb)), [], .nil, Heap.DictOf.new h⟩
def tDNewK : TE := fun _ H Q => ∀ p, H p = none → Q (.ref p) (upd H p (.dK []))
section
variable {X : Cx} {pos : Pos}
theorem pe_dnewK : PE X (.Dict [] [] pos) tDNewK := fun pins s σ H Q I h =>
  wpAny_Dict_empty ⟨.ref s.heap.objs.size, _, I.laid (a := s.heap.objs.size) (o := .dK []) (t' := s.toks) (fun _ _ q => Heap.get?_push_of_some _ q) (Nat.le_refl _) (dk_empty s.heap I.big), rfl, h _ (I.hok.fresh (Nat.le_refl _))⟩
end
def tPairs : List (TE × TE) → St → Hp → (List (V × V) → Hp → Prop) → Prop
  | [], _, H, Q => Q [] H
  | (tk, tv) :: r, σ, H, Q => tk σ H fun x H1 => tv σ H1 fun y H2 => tPairs r σ H2 fun ps H3 => Q ((x, y) :: ps) H3
abbrev VV : List (V × V) → List (Value × Value) → Prop := Paired fun p q => RelV p.1 q.1 ∧ RelV p.2 q.2
def PPs (X : Cx) (pos : Pos) (keys : List (Option Expr)) (values : List Expr) (trs : List (TE × TE)) : Prop :=
  ∀ (pins : List (Addr × Obj)) (s : Shared) (σ : St) (H : Hp) (Q : List (V × V) → Hp → Prop), Inv X pins σ H s → tPairs trs σ H Q →
    wpAny (model X.prog X.w) X.A (evalPairs (pairTrees keys values X.env pos)) (fun vs s' => ∃ ps H', Inv X pins σ H' s' ∧ VV ps vs ∧ Q ps H') X.xe s
theorem pps_nil {X : Cx} {pos : Pos} : PPs X pos [] [] [] := fun pins s σ H Q I h => pairTrees_nil_walk ⟨[], H, I, .nil, h⟩
theorem pps_cons {X : Cx} {pos : Pos} {k v : Expr} {ks : List (Option Expr)} {vs : List Expr} {tk tv : TE} {trs : List (TE × TE)} (hk : PE X k tk) (hv : PE X v tv) (hr : PPs X pos ks vs trs) :
    PPs X pos (some k :: ks) (v :: vs) ((tk, tv) :: trs) := fun pins s σ H Q I h =>
  pairTrees_cons_walk (thn (hk pins s σ H _ I h) fun u s1 ⟨x, H1, I1, rx, q1⟩ => thn (hv pins s1 σ H1 _ I1 q1) fun w2 s2 ⟨y, H2, I2, ry, q2⟩ =>
    thn (hr pins s2 σ H2 _ I2 q2) fun ws s3 ⟨ps, H3, I3, rel, q3⟩ => ⟨(x, y) :: ps, H3, I3, .cons ⟨rx, ry⟩ rel, q3⟩)
def mergeK (kvs more : List (Key × V)) : List (Key × V) := more.foldl (fun acc kv => putK acc kv.1 kv.2) kvs
theorem KV.merge : ∀ {more : List (Key × V)} {rs : List (Key × Value)} {kvs : List (Key × V)} {vs : List (Key × Value)}, KV more rs → KV kvs vs → KV (mergeK kvs more) (merged vs rs) := by
  intro more rs kvs vs r
  unfold KV at r
  induction r generalizing kvs vs with
  | nil => intro q; exact q
  | @cons p q ps qs h t ih =>
    intro r0
    have e : KV (putK kvs p.1 p.2) (stored vs q.1 q.2) := by
      have := r0.put p.1 h.2
      rw [← h.1]; exact this
    exact ih e
theorem length_mergeK : ∀ (more kvs : List (Key × V)), (mergeK kvs more).length ≤ kvs.length + more.length
  | [], kvs => by show kvs.length ≤ kvs.length + 0; omega
  | p :: r, kvs => by
    have h1 := length_mergeK r (putK kvs p.1 p.2)
    have h2 := length_putK kvs p.1 p.2
    show (mergeK (putK kvs p.1 p.2) r).length ≤ _
    rw [List.length_cons]; omega
theorem carries_of {P : Program} {w : World} : ∀ {kvs : List (Key × V)} {ws : List (Value × Value)}, VV (kvs.map fun kv => (kV kv.1, kv.2)) ws → ∃ rs, Carries (mixKind P w) ws rs ∧ KV kvs rs
  | [], _, r => by rw [List.map_nil] at r; cases r; exact ⟨[], True.intro, .nil⟩
  | p :: kvs, _, r => by
    rw [List.map_cons] at r
    cases r with
    | @cons a b as bs h t =>
      obtain ⟨rs, c, q⟩ := carries_of (P := P) (w := w) t
      obtain ⟨b1, b2⟩ := b
      exact ⟨(p.1, b2) :: rs, ⟨kV_is h.1, rfl, c⟩, .cons ⟨rfl, h.2⟩ q⟩
def tDisp (trs : List (TE × TE)) : TE := fun σ H Q => ∀ p, H p = none → tPairs trs σ (upd H p (.dK [])) fun ps H2 => H2 p = some (.dK []) ∧ ∃ kvs : List (Key × V), ps = kvs.map (fun kv => (kV kv.1, kv.2)) ∧ kvs.length ≤ 15 ∧ Q (.ref p) (upd H2 p (.dK (mergeK [] kvs)))
theorem pe_disp {X : Cx} {pos : Pos} {keys : List (Option Expr)} {values : List Expr} {trs : List (TE × TE)} (h : PPs X pos keys values trs) (hall : keys.all (·.isSome) = true) (hl : keys.length = values.length) (h0 : keys ≠ [])
    (h15 : keys.length ≤ 15) : PE X (.Dict keys values pos) (tDisp trs) := by
  intro pins s σ H Q I q
  have hn := I.hok.fresh (Nat.le_refl s.heap.objs.size)
  have I1 := I.laid (a := s.heap.objs.size) (o := .dK []) (h' := s.heap.push { cls := .type "dict", data := .dict #[] }) (t' := s.toks) (fun _ _ q => Heap.get?_push_of_some _ q) (Nat.le_refl _) (dk_empty s.heap I.big)
  refine wpAny_Dict_walk (knd := mixKind X.prog X.w) hall hl h0 h15 (thn (h pins _ σ _ _ I1 (q _ hn)) fun ws s2 ⟨ps, H2, I2, rel, e, kvs, ep, lk, q2⟩ => ?_)
  subst ep
  obtain ⟨rs, c, rk⟩ := carries_of (P := X.prog) (w := X.w) rel
  obtain ⟨z, hd, vs0, r0, dd⟩ := dk_of I2.hok e
  cases r0
  refine ⟨rs, c, dd, fun h' dd' hs => ⟨.ref s.heap.objs.size, _, ?_, rfl, q2⟩⟩
  have hz : (mergeK [] kvs).length ≤ sizeLine := by
    have h1 := length_mergeK kvs []
    rw [List.length_nil] at h1
    rw [sizeLine_eq]; omega
  have he : ∃ q, h'.get? s.heap.objs.size = some q := let ⟨q, _, _, hq, _⟩ := dd'; ⟨q, hq⟩
  exact d_write I2 (by rw [e]; exact True.intro) hs he (dk_new hz hd (rk.merge .nil) dd')
structure M2 (X : Cx) (o : Expr) (m : Str) (apos : Pos) (e f : Expr) (cpos : Pos) : Prop where
  base : attributeBase o m X.env (eval o X.env) = eval o X.env
  few : ((backTo cpos (starEach [e, f] X.env)).all (fun x => !x.1) && (backToKw cpos (keywordEach [] X.env)).all (fun x => x.1.isSome)
    && decide (([e, f] : List Expr).length + ([] : List Keyword).length + (if ([] : List Keyword).isEmpty then 0 else 1) < 30)) = true
  line : (apos.endLine == cpos.line) = true
  trees : backTo cpos (starEach [e, f] X.env) = [(false, eval e X.env), (false, eval f X.env)]
def IsD (H : Hp) (a : Addr) : Prop := (∃ kvs, Rd H a (.dK kvs)) ∨ ∃ kvs, Rd H a (.dT kvs)
theorem isD_at {X : Cx} {pins : List (Addr × Obj)} {σ : St} {H : Hp} {s : Shared} {a : Addr} (I : Inv X pins σ H s) (d : IsD H a) :
    s.TypeIs (.ref a) "dict" ∧ (∀ b, Value.ref a = .ref b → ∃ ob, s.heap.get? b = some ob ∧ ob.dict = none) ∧ (a == sysModules) = false := by
  rcases d with ⟨kvs, e⟩ | ⟨kvs, e⟩
  · obtain ⟨_, hd, vs, _, dd⟩ := dk_rd I.hok e
    refine ⟨dd.typeIs, fun b q => ?_, hd⟩
    cases q
    obtain ⟨ob, _, _, h1, h2, _⟩ := dd
    exact ⟨ob, h1, h2.2.1⟩
  · obtain ⟨_, hd, xs, _, dd⟩ := dt_rd I.hok e
    refine ⟨dd.typeIs, fun b q => ?_, hd⟩
    cases q
    obtain ⟨ob, _, _, h1, h2, _⟩ := dd
    exact ⟨ob, h1, h2.2.1⟩
section
variable {X : Cx} {pins : List (Addr × Obj)} {σ : St} {H : Hp} {s : Shared} {a : Addr} {y d : V} {u r : Value} {o : Option V} {A : Around} {E : Value → Shared → Prop}
theorem d_get2 {Q : Value → Shared → Prop} (hu : A.units + 1 < cLine) (I : Inv X pins σ H s) (g : DGet H a y o) (ry : RelV y u) (rd : RelV d r) (h : ∀ w' s', Inv X pins σ H s' → RelV (o.getD d) w' → Q w' s') :
    wpAny (model X.prog X.w) A (call (.builtin "dict.get") [.ref a, u, r]) Q E s := by
  rcases g with ⟨kvs, k, e, ey, l⟩ | ⟨kvs, k, b, e, ey, eb, l⟩
  · subst ey
    obtain ⟨z, hd, vs, rel, dd⟩ := dk_rd I.hok e
    refine call_meetsIn PySem.F.slot_dict_get dd.typeIs PySem.F.entry_dict_get (PySem.F.args_dict_get_3 _ _ _) (meets_dict_get_default (mixKind X.prog X.w) a (kV_is ry) hd r) ⟨_, dd.mapOf, h _ _ (I.tok _) ?_⟩
    rw [l]
    exact (rel.val k).getD rd
  · subst ey
    cases (show u = Value.ref b from ry)
    obtain ⟨z, hd, xs, rel, dd⟩ := dt_rd I.hok e
    refine call_meetsIn PySem.F.slot_dict_get dd.typeIs PySem.F.entry_dict_get (PySem.F.args_dict_get_3 _ _ _) (meetsH_dict_get_default (tupleKind (mixKind X.prog X.w)) a b hd r) ⟨tupleKind_room_in1 hu, k, xs, key_of I.hok eb, dd, h _ _ (I.tok _) ?_⟩
    rw [l]
    exact (rel.val k).getD rd
end
def tDGet2 (td ty tx : TE) : TE := fun σ H Q => td σ H fun x H1 => ∃ a, x = .ref a ∧ IsD H1 a ∧ ty σ H1 fun y H2 => tx σ H2 fun z H3 => ∃ o, DGet H3 a y o ∧ Q (o.getD z) H3
section
variable {X : Cx} {o e f : Expr} {apos cpos : Pos} {td ty tx : TE}
theorem pe_dget2 (hu : X.A.units + 1 < cLine) (ho : PE X o td) (he : PE X e ty) (hf : PE X f tx) (m : M2 X o "get" apos e f cpos) : PE X (.Call (.Attribute o "get" apos) [e, f] [] cpos) (tDGet2 td ty tx) := by
  intro pins s σ H Q I h
  refine wpAny_Call_method m.base m.few m.line PySem.F.plainAttrs_dict PySem.F.slot_dict_get PySem.F.type_dict_get (thn (ho pins s σ H _ I h) fun u s1 ⟨x, H1, I1, rx, a, ex, d, q1⟩ => ?_)
  subst ex
  obtain rfl : u = Value.ref a := rx
  obtain ⟨t1, t2, _⟩ := isD_at I1 d
  refine ⟨t1, t2, ?_⟩
  rw [m.trees]
  refine Calls.callWith_builtin rfl (Calls.evalArgs_plain (Calls.spliced_cons (thn (he pins s1 σ H1 _ I1 q1) fun iv s2 ⟨y, H2, I2, ry, q2⟩ =>
    Calls.spliced_cons (thn (hf pins s2 σ H2 _ I2 q2) fun fv s3 ⟨z, H3, I3, rz, ov, g, q3⟩ => Calls.spliced_nil ?_))))
  exact d_get2 hu I3 g ry rz fun w' s4 I4 rw' => ⟨_, H3, I4, rw', q3⟩
end
section
variable {X : Cx} {pins : List (Addr × Obj)} {σ : St} {H : Hp} {s : Shared} {a : Addr} {kvs : List (Key × V)} {A : Around} {E : Value → Shared → Prop}
end
section
variable {X : Cx} {pins : List (Addr × Obj)} {σ : St} {H : Hp} {s : Shared} {a : Addr} {y : V} {u : Value} {A : Around} {E : Value → Shared → Prop}
end
end L2
namespace L2
open PySem PySem.Spec PyProof.Rows
section
variable {X : Cx} {o i e f value : Expr} {pos pos' apos cpos : Pos} {td ty tv tx : TE}
theorem qe_dnew : QE X (.Dict [] [] pos) tDNewK := ⟨pe_dnewK⟩
theorem qe_disp1 {k v : Expr} {tk tv : TE} (hk : QE X k tk) (hv : QE X v tv) : QE X (.Dict [some k] [v] pos) (tDisp [(tk, tv)]) :=
  ⟨pe_disp (pps_cons hk.h hv.h pps_nil) rfl rfl (by simp) (by show 1 ≤ 15; decide)⟩
theorem qe_dget (hu : X.A.units + 1 < cLine) (ho : QE X o td) (hi : QE X i ty) (hs : NoSl i := by exact fun _ _ => rfl) : QE X (.Subscript o i pos) (tDGet td ty) := ⟨pe_dget hu ho.h hi.h hs⟩
theorem qe_dget2 (hu : X.A.units + 1 < cLine) (ho : QE X o td) (he : QE X e ty) (hf : QE X f tx) (hb : attributeBase o "get" X.env (eval o X.env) = eval o X.env := by rfl) (hl : (apos.endLine == cpos.line) = true := by rfl)
    (s1 : isStar e = false := by rfl) (s2 : isStar f = false := by rfl) : QE X (.Call (.Attribute o "get" apos) [e, f] [] cpos) (tDGet2 td ty tx) := by
  refine ⟨pe_dget2 hu ho.h he.h hf.h ⟨hb, ?_, hl, ?_⟩⟩
  · have h2 : ([e, f] : List Expr).all (fun e => !isStar e) = true := by simp [s1, s2]
    rw [star_all cpos X.env h2]
    rfl
  · rw [star_no s1 [f] X.env, star_no s2 [] X.env]
    rfl
theorem qs_dput (hu : X.A.units + 1 < cLine) (ho : QE X o td) (hi : QE X i ty) (hv : QE X value tv) (hs : swapsWith value (some (.Subscript o i pos')) pos.line X.env = pure false := by rfl) :
    QS X (.Assign [.Subscript o i pos'] value pos) (sDPut td ty tv) := ⟨ps_dput hu ho.h hi.h hv.h hs⟩
end
def Itd (a : Addr) (o : Obj) (kvs : List (Key × V)) : It := ⟨fun i H => i < kvs.length ∧ H a = some (.frz o (.dK kvs)), fun i H v H' => H' = H ∧ ∃ kv, kvs[i]? = some kv ∧ v = kV kv.1, fun i H => kvs.length ≤ i ∧ H a = some (.frz o (.dK kvs))⟩
theorem dict_at {P : Program} {w : World} {h : Heap} {a : Addr} {vs : List (Key × Value)} (d : h.DictOf (mixKind P w) a vs) {o : Obj} {es : Array DictEntry} {ep : Nat} (ho : h.get? a = some o) (hd : o.data = .dict es ep) : h.DictAt (mixKind P w) a vs ep := by
  obtain ⟨o', es', ep', h1, h2, h3, h4, h5, h6⟩ := d
  rw [ho] at h1
  cases h1
  rw [hd] at h3
  cases h3
  exact ⟨o, es, ho, h2, hd, h4, h5, h6⟩
theorem key_rel {k : Key} {v : Value} (h : keyIs k v = true) : RelV (kV k) v := by
  rcases keyIs_shape h with ⟨i, t, rfl, rfl⟩ | ⟨x, t, rfl, rfl⟩ <;> exact ⟨_, rfl⟩
theorem turn_dict {P : Program} {w : World} {K : PySem.W.Frag} {tg : Expr} (it a : Addr) (o : Obj) (es : Array DictEntry) (ep : Nat) (hod : o.data = .dict es ep) (kvs : List (Key × V)) :
    Turn P w K tg (Itd a o kvs) [it] it (fun i h => i ≤ kvs.length ∧ h.IsKeyIter it a i kvs.length ep) where
  mem := by simp
  obj := fun i h st b hb => by
    have e : b = it := by simpa using hb
    subst e
    obtain ⟨_, o, e, c, d⟩ := st
    exact ⟨o, e, fun v z => by rw [d] at z; cases z⟩
  keep := fun i h h' st k => by
    obtain ⟨l, o, e, r⟩ := st
    exact ⟨l, o, k it (by simp) o e, r⟩
  item := by
    intro X hP hw hK hc i pins s σ H E I hf st hg
    subst hP hw hK
    obtain ⟨f0, f1, f2, f3, f4, f5⟩ := hf it (by simp)
    obtain ⟨hg', hfr⟩ := hg
    obtain ⟨ho, hz, hsys, vs, kv, dd⟩ := I.hok a _ hfr
    have da := dict_at dd ho hod
    have hln := KV.length kv
    have hit := st.2
    obtain ⟨q, hq⟩ : ∃ q, kvs[i]? = some q := ⟨_, List.getElem?_eq_getElem hg'⟩
    obtain ⟨⟨k, x⟩, hx⟩ : ∃ p, vs[i]? = some p := ⟨_, List.getElem?_eq_getElem (by omega)⟩
    have hk : q.1 = k := by
      have e := congrArg (fun l => l[i]?) (KV.keys kv)
      simp only [List.getElem?_map, hq, hx, Option.map_some] at e
      exact Option.some.inj e
    rw [hln] at hit
    refine wpAny_pyNext_dict_item hit da hx fun key h' hkey hit' sb => ?_
    have I1 : Inv X pins σ H { s with heap := h' } := I.turned (t' := s.toks) (fun b o hb e => (sb.2 b hb).trans e) f0 f1 f3 f4 f5
    have rk : RelV (kV q.1) key := by
      rw [hk]
      exact key_rel hkey
    obtain ⟨o2, e2, c2, d2⟩ := id hit'
    exact ⟨key, rfl, go_of (s := { s with heap := h' }) e2 c2 d2 (by decide) ⟨kV q.1, H, I1, rk, ⟨rfl, q, hq, rfl⟩, ⟨hg', by rw [hln]; exact hit'⟩, fun b hb => (hf b hb).1⟩⟩
  done := by
    intro X hP hw hK hc i pins s σ H E I hf st hg
    subst hP hw hK
    obtain ⟨f0, f1, f2, f3, f4, f5⟩ := hf it (by simp)
    obtain ⟨hg', hfr⟩ := hg
    obtain ⟨ho, hz, hsys, vs, kv, dd⟩ := I.hok a _ hfr
    have da := dict_at dd ho hod
    have hln := KV.length kv
    have hit := st.2
    rw [hln] at hit
    exact wpAny_pyNext_dict_end (I.ok.hd hc) hit da (List.getElem?_eq_none (by omega)) fun h' eb => ⟨rfl, I.turned (t' := s.toks) (fun b o hb e => eb b o hb e) f0 f1 f3 f4 f5⟩
  self := fun A i s Q E st h => wpAny_pyIter_keyiter st.2 h
def iDict (te : TE) : TI := fun σ H R => te σ H fun v H1 => ∃ (a : Addr) (kvs : List (Key × V)), v = .ref a ∧ H1 a = some (.dK kvs) ∧ ∀ o, R (Itd a o kvs) (upd H1 a (.frz o (.dK kvs)))
section
variable {X : Cx}
theorem qi_dict {tg e : Expr} {te : TE} (he : QE X e te) : QI X tg e (iDict te) := ⟨by
  intro pins s σ H R I h
  refine thn (he.h pins s σ H _ I h) fun v s1 ⟨y, H1, I1, r1, q1⟩ => ?_
  obtain ⟨a, kvs, e, hd, q⟩ := q1
  subst e
  cases r1
  obtain ⟨hz, hsys, vs, kv, dd⟩ := I1.hok a _ hd
  obtain ⟨o, es, ep, h1, h2, h3, h4⟩ := id dd
  have da := dict_at dd h1 h3
  refine wpAny_pyIter_dict hsys da ?_
  have I2 : Inv X pins σ (upd H1 a (.frz o (.dK kvs))) s1 := I1.write (x := a) (e := a) (h' := s1.heap) (t' := s1.toks) (by rw [hd]; trivial) (.inl rfl) (fun _ _ _ q => q) ⟨_, h1⟩ ⟨h1, hz, hsys, vs, kv, dd⟩
  refine ⟨s1.heap.objs.size, [s1.heap.objs.size], _, _, upd H1 a (.frz o (.dK kvs)), rfl, I2.kept (t' := s1.toks) fun b o e => Heap.get?_push_of_some _ e, turn_dict _ a o es ep h3 kvs, ⟨Nat.zero_le _, _, Heap.get?_push_size _ rfl, rfl, by rw [KV.length kv]; rfl⟩, fun b hb => ?_, q o⟩
  have e : b = s1.heap.objs.size := by simpa using hb
  subst e
  exact I2.fpOk (Nat.le_refl _) (I2.hok.fresh (Nat.le_refl _))⟩
theorem for_dict {a : Addr} {o : Obj} {kvs : List (Key × V)} {g : TG} {tb : TS} {D : Ends} {σ : St} {H : Hp} (Pv : Nat → St → Hp → Prop) (h0 : Pv 0 σ H) (hst : ∀ i σ H, Pv i σ H → H a = some (.frz o (.dK kvs)))
    (hs : ∀ i kv σ H, kvs[i]? = some kv → Pv i σ H → g (kV kv.1) σ H fun σ2 H2 => tb { D with nx := Pv (i + 1), ct := Pv (i + 1), bk := D.nx } σ2 H2) (hd : ∀ σ H, Pv kvs.length σ H → D.nx σ H) :
    ∃ W : Nat → Nat → St → Hp → Prop, (∃ m, W 0 m σ H) ∧ ∀ i m σ H, W i m σ H →
      ((Itd a o kvs).stop i H ∧ D.nx σ H) ∨ ((Itd a o kvs).go i H ∧ ∃ N : St → Hp → Prop, (∀ σ' H', N σ' H' → ∃ m', m' < m ∧ W (i + 1) m' σ' H') ∧ ∀ y H', (Itd a o kvs).yld i H y H' → g y σ H' fun σ2 H2 => tb { D with nx := N, ct := N, bk := D.nx } σ2 H2) := by
  refine ⟨fun i m σ H => m = kvs.length - i ∧ i ≤ kvs.length ∧ Pv i σ H, ⟨kvs.length, by simp, Nat.zero_le _, h0⟩, ?_⟩
  rintro i m σ H ⟨rfl, hi, p⟩
  by_cases hlt : i < kvs.length
  · refine .inr ⟨⟨hlt, hst i σ H p⟩, Pv (i + 1), fun σ' H' p' => ⟨kvs.length - (i + 1), by omega, rfl, hlt, p'⟩, fun v H' y => ?_⟩
    obtain ⟨e, kv, hk, ev⟩ := y
    subst e ev
    exact hs i kv σ _ hk p
  · have e : i = kvs.length := by omega
    subst e
    exact .inl ⟨⟨Nat.le_refl _, hst _ σ H p⟩, hd σ H p⟩
end
end L2
namespace HW
open PySem L2 PyProof.Rows
theorem room1 {k : Nat} {A : Around} (r : Room k A) : A.units + 1 < cLine := by have := r.units; omega
abbrev WD := List (List Nat × Nat)
def wdK (D : WD) : List (Key × V) := D.map fun p => (Sum.inr (S p.1), V.int (p.2 : Int))
def wsum (f : List Nat → Nat) (D : WD) : Nat := (D.map fun p => p.2 * f p.1).sum
def wkeys (D : WD) : List (List Nat) := D.map (·.1)
theorem wsum_app (f : List Nat → Nat) (D E : WD) : wsum f (D ++ E) = wsum f D + wsum f E := by
  unfold wsum
  rw [List.map_append, List.sum_append]
theorem wkey_ne {r s : List Nat} (h : ¬ r = s) : ¬ (Sum.inr (S r) : Key) = Sum.inr (S s) := fun z => h (S_inj (Sum.inr.inj z))
theorem wval_none {r : List Nat} : ∀ {D : WD}, (∀ p ∈ D, p.1 ≠ r) → valV (wdK D) (Sum.inr (S r)) = none
  | [], _ => rfl
  | p :: D, h => by
    show valV ((Sum.inr (S p.1), V.int (p.2 : Int)) :: wdK D) _ = none
    rw [valV_neg (wkey_ne (h p List.mem_cons_self))]
    exact wval_none fun q hq => h q (List.mem_cons_of_mem _ hq)
theorem wval_some {r : List Nat} {n : Nat} : ∀ {D : WD}, (wkeys D).Nodup → (r, n) ∈ D → valV (wdK D) (Sum.inr (S r)) = some (V.int (n : Int))
  | [], _, h => nomatch h
  | p :: D, nd, h => by
    show valV ((Sum.inr (S p.1), V.int (p.2 : Int)) :: wdK D) _ = _
    unfold wkeys at nd
    rw [List.map_cons, List.nodup_cons] at nd
    by_cases e : p.1 = r
    · rw [valV_pos (by rw [e])]
      rcases List.mem_cons.mp h with z | z
      · rw [← z]
      · exact absurd (List.mem_map.mpr ⟨_, z, e.symm⟩) nd.1
    · rw [valV_neg (wkey_ne e)]
      rcases List.mem_cons.mp h with z | z
      · exact absurd (by rw [← z]) e
      · exact wval_some nd.2 z
def wrep (D : WD) (r : List Nat) (m : Nat) : WD := D.map fun p => if p.1 = r then (p.1, m) else p
theorem wrep_none {r : List Nat} {m : Nat} : ∀ {D : WD}, r ∉ wkeys D → wrep D r m = D
  | [], _ => rfl
  | p :: D, h => by
    unfold wkeys at h
    rw [List.map_cons, List.mem_cons] at h
    show (if p.1 = r then (p.1, m) else p) :: wrep D r m = _
    rw [if_neg fun z => h (.inl z.symm), wrep_none fun z => h (.inr z)]
theorem wrep_keys (r : List Nat) (m : Nat) : ∀ D : WD, wkeys (wrep D r m) = wkeys D
  | [] => rfl
  | p :: D => by
    show (if p.1 = r then (p.1, m) else p).1 :: wkeys (wrep D r m) = p.1 :: wkeys D
    rw [wrep_keys r m D]
    by_cases e : p.1 = r
    · rw [if_pos e]
    · rw [if_neg e]
theorem wrep_sum (f : List Nat → Nat) {r : List Nat} {n k : Nat} : ∀ {D : WD}, (wkeys D).Nodup → (r, n) ∈ D → wsum f (wrep D r (n + k)) = wsum f D + k * f r
  | [], _, h => nomatch h
  | p :: D, nd, h => by
    unfold wkeys at nd
    rw [List.map_cons, List.nodup_cons] at nd
    have e0 : wsum f (p :: D) = p.2 * f p.1 + wsum f D := rfl
    have e1 : wsum f (wrep (p :: D) r (n + k)) = (if p.1 = r then (p.1, n + k) else p).2 * f (if p.1 = r then (p.1, n + k) else p).1 + wsum f (wrep D r (n + k)) := rfl
    rw [e0, e1]
    by_cases e : p.1 = r
    · rcases List.mem_cons.mp h with z | z
      · rw [if_pos e, wrep_none (by rw [← e]; exact nd.1), ← z]
        show (n + k) * f r + _ = n * f r + _ + _
        rw [Nat.add_mul]
        omega
      · exact absurd (List.mem_map.mpr ⟨_, z, e.symm⟩) nd.1
    · rcases List.mem_cons.mp h with z | z
      · exact absurd (by rw [← z]) e
      · rw [if_neg e, wrep_sum f nd.2 z]
        omega
theorem wrep_K (r : List Nat) (m : Nat) : ∀ D : WD, (wdK D).map (fun kv => if kv.1 = (Sum.inr (S r) : Key) then (kv.1, V.int (m : Int)) else kv) = wdK (wrep D r m)
  | [] => rfl
  | p :: D => by
    show (if (Sum.inr (S p.1) : Key) = Sum.inr (S r) then ((Sum.inr (S p.1) : Key), V.int (m : Int)) else (Sum.inr (S p.1), V.int (p.2 : Int))) :: (wdK D).map _ = wdK ((if p.1 = r then (p.1, m) else p) :: wrep D r m)
    rw [wrep_K r m D]
    by_cases e : p.1 = r
    · rw [if_pos e, if_pos (by rw [e])]
      rfl
    · rw [if_neg e, if_neg (wkey_ne e)]
      rfl
theorem wput {D : WD} (nd : (wkeys D).Nodup) (r : List Nat) (k : Nat) : ∃ (z : Nat) (D' : WD), (valV (wdK D) (Sum.inr (S r))).getD (V.int 0) = V.int (z : Int) ∧ putK (wdK D) (Sum.inr (S r)) (V.int ((z : Int) + (k : Int))) = wdK D' ∧
    (wkeys D').Nodup ∧ (∀ q ∈ wkeys D', q = r ∨ q ∈ wkeys D) ∧ ∀ f, wsum f D' = wsum f D + k * f r := by
  by_cases h : r ∈ wkeys D
  · obtain ⟨⟨r', n⟩, hp, e⟩ := List.mem_map.mp h
    have e : r' = r := e
    subst e
    have hv := wval_some nd hp
    refine ⟨n, wrep D r' (n + k), by rw [hv]; rfl, ?_, by rw [wrep_keys]; exact nd, fun q hq => .inr (by rw [wrep_keys] at hq; exact hq), fun f => wrep_sum f nd hp⟩
    unfold putK
    rw [valV_any, hv, Option.isSome_some, if_pos rfl, ← wrep_K]
    rfl
  · have hv : valV (wdK D) (Sum.inr (S r)) = none := wval_none fun p hp e => h (List.mem_map.mpr ⟨p, hp, e⟩)
    refine ⟨0, D ++ [(r, k)], by rw [hv]; rfl, ?_, ?_, fun q hq => ?_, fun f => ?_⟩
    · rw [putK_new _ hv]
      unfold wdK
      rw [List.map_append, List.map_cons, List.map_nil, show ((0 : Nat) : Int) + (k : Int) = (k : Int) by omega]
    · unfold wkeys
      rw [List.map_append, List.nodup_append]
      refine ⟨nd, by simp, fun a ha b hb z => ?_⟩
      have : b = r := by simpa using hb
      subst this z
      exact h ha
    · unfold wkeys at hq
      rw [List.map_append] at hq
      rcases List.mem_append.mp hq with z | z
      · exact .inr z
      · exact .inl (by simpa using z)
    · rw [wsum_app]
      show wsum f D + (k * f r + 0) = _
      omega
def subs : List Nat → List (List Nat)
  | [] => [[]]
  | a :: w => subs w ++ (subs w).map (a :: ·)
theorem subs_len : ∀ w, (subs w).length = 2 ^ w.length
  | [] => rfl
  | a :: w => by
    show (subs w ++ (subs w).map (a :: ·)).length = 2 ^ (w.length + 1)
    rw [List.length_append, List.length_map, subs_len w, Nat.pow_succ]
    omega
theorem mem_subs {u w : List Nat} (h : u.Sublist w) : u ∈ subs w := by
  induction h with
  | slnil => exact List.mem_singleton.mpr rfl
  | cons a _ ih => exact List.mem_append_left _ ih
  | cons_cons a _ ih => exact List.mem_append_right _ (List.mem_map.mpr ⟨_, ih, rfl⟩)
theorem nodupA_le {α : Type} [DecidableEq α] : ∀ {l m : List α}, l.Nodup → (∀ a ∈ l, a ∈ m) → l.length ≤ m.length
  | [], _, _, _ => Nat.zero_le _
  | a :: l, m, nd, h => by
    rw [List.nodup_cons] at nd
    have h1 := List.length_erase_of_mem (h a List.mem_cons_self)
    have h2 := List.length_pos_of_mem (h a List.mem_cons_self)
    have := nodupA_le (l := l) (m := m.erase a) nd.2 fun b hb => (List.mem_erase_of_ne (fun z : b = a => nd.1 (z ▸ hb))).mpr (h b (List.mem_cons_of_mem _ hb))
    rw [List.length_cons]
    omega
theorem wd_small {D : WD} {w : List Nat} (nd : (wkeys D).Nodup) (hs : ∀ q ∈ wkeys D, q.Sublist w) (hw : w.length ≤ 12) : D.length ≤ 4096 := by
  have := nodupA_le (l := wkeys D) (m := subs w) nd fun a ha => mem_subs (hs a ha)
  rw [subs_len] at this
  have e : (wkeys D).length = D.length := List.length_map _
  rw [e] at this
  exact Nat.le_trans this (Nat.pow_le_pow_right (by decide) hw)
theorem wd_len (D : WD) : (wdK D).length = D.length := List.length_map _
theorem cnt_pos {td : Nat → Nat → Bool} (Td : TR.Td td) : ∀ (n : Nat) {w : List Nat}, w.length = n → 0 < TR.cnt td w
  | 0, w, h => by
    rw [List.length_eq_zero_iff.mp h]
    exact Nat.one_pos
  | n + 1, w, h => by
    have hne : w ≠ [] := fun z => by rw [z] at h; cases h
    rw [TR.cnt_rec Td hne]
    obtain ⟨a, ha⟩ := List.exists_mem_of_ne_nil _ (TR.firsts_ne Td hne)
    have hm := ((TR.mem_firsts Td).mp ha).mem
    have h1 := List.length_erase_of_mem hm
    have ih := cnt_pos Td n (w := w.erase a) (by omega)
    obtain ⟨x, y, e⟩ := List.append_of_mem ha
    rw [e, List.map_append, List.map_cons, List.sum_append, List.sum_cons]
    omega
theorem wd_end {D : WD} {f : List Nat → Nat} (nd : (wkeys D).Nodup) (hk : ∀ q ∈ wkeys D, q = []) (hp : 0 < wsum f D) : ∃ n, D = [([], n)] := by
  cases D with
  | nil => cases hp
  | cons p D =>
    have h1 : p.1 = [] := hk p.1 List.mem_cons_self
    cases D with
    | nil => exact ⟨p.2, by rw [← h1]⟩
    | cons q D =>
      have h2 : q.1 = [] := hk q.1 (List.mem_cons_of_mem _ List.mem_cons_self)
      unfold wkeys at nd
      rw [List.map_cons, List.nodup_cons, List.map_cons, h1, h2] at nd
      exact absurd List.mem_cons_self nd.1
structure SameB (a : Addr) (H H' : Hp) : Prop where
  tr : ∀ b o, b ≠ a → H b = some o → H' b = some o
  ck : H.clk ≤ H'.clk
theorem SameB.same {a : Addr} {H H1 H2 : Hp} (h : SameB a H H1) (k : Same H1 H2) : SameB a H H2 := ⟨fun b o n z => k b o (h.tr b o n z), Nat.le_trans h.ck k.ck⟩
theorem SameB.of {a : Addr} {H H1 : Hp} (k : Same H H1) : SameB a H H1 := ⟨fun b o _ z => k b o z, k.ck⟩
theorem SameB.put {a b : Addr} {H H1 : Hp} (h : SameB a H H1) (n : H b = none) (o : HO) : SameB a H (upd H1 b o) :=
  ⟨fun c u hc z => by rw [upd_ne (ne_of_none z n)]; exact h.tr c u hc z, h.ck⟩
theorem SameB.to {a : Addr} {H0 H H1 : Hp} (h0 : Same H0 H) (n : H0 a = none) (h : SameB a H H1) : Same H0 H1 :=
  ⟨fun b o z => h.tr b o (ne_of_none z n) (h0 b o z), Nat.le_trans h0.ck h.ck⟩
theorem GAt.put {H : Hp} {g : Addr} {L : List Nat} {T : List (List Nat)} (h : GAt H g L T) {a : Addr} {kvs : List (Key × V)} (ha : H a = some (.dK kvs)) (o : HO) : GAt (upd H a o) g L T := by
  obtain ⟨t, h1, h2, h3⟩ := h
  have n1 : g ≠ a := fun z => by subst z; rw [ha] at h1; cases h1
  have n2 : t ≠ a := fun z => by subst z; rw [ha] at h2; cases h2
  exact ⟨t, by rw [upd_ne n1]; exact h1, by rw [upd_ne n2]; exact h2, h3⟩
def spWays : Sp := fun vs H Q _ => ∃ (g a : Addr) (L : List Nat) (T : List (List Nat)) (D : WD) (w : List Nat), vs = [.ref g, .ref a] ∧ Ground L T ∧ GAt H g L T ∧ H a = some (.dK (wdK D)) ∧ (wkeys D).Nodup ∧
  (∀ r ∈ wkeys D, r.Sublist w) ∧ (∀ r ∈ wkeys D, r ≠ []) ∧ w.length ≤ 12 ∧
  ∀ (b : Addr) (D' : WD) (H' : Hp), SameB a H H' → H b = none → H' b = some (.dK (wdK D')) → (wkeys D').Nodup → (∀ q ∈ wkeys D', ∃ r ∈ wkeys D, q.Sublist r ∧ q.length + 1 = r.length) → wsum (TR.cnt (tiedB T)) D' = wsum (TR.cnt (tiedB T)) D → Q (.ref b) H'
end HW
namespace L2
open PySem PySem.Spec PyProof.Rows
def gallop' : Bool → Keyed → Array Keyed → Nat → Nat → Nat → StateT SortSt Sem (Option Nat) := sortPriv% PySem.Builtin.gallop
def mergeLo' : Array Keyed → Array Keyed → StateT SortSt Sem (Array Keyed) := sortPriv% PySem.Builtin.mergeLo
def mergeHi' : Array Keyed → Array Keyed → StateT SortSt Sem (Array Keyed) := sortPriv% PySem.Builtin.mergeHi
section
variable {κ : PyProof.Rows.KeyKind}
def ky (κ : PyProof.Rows.KeyKind) (p : Keyed) : κ.α := (κ.keyOf p.1).getD κ.dflt
def HasK (κ : PyProof.Rows.KeyKind) (p : Keyed) : Prop := ∃ a, κ.keyOf p.1 = some a
def kl (κ : PyProof.Rows.KeyKind) (p q : Keyed) : Bool := κ.blt (ky κ p) (ky κ q)
end
section
variable {prog : Program} {w : World} {A : Around} {E : Value → Shared → Prop} {s : Shared} {κ : PyProof.Rows.KeyKind}
theorem wpS_elem {arr : Array Keyed} {i : Nat} {p : Keyed} {st : SortSt} {Q : Keyed → SortSt → Prop} (h : arr[i]? = some p) (q : Q p st) : wpS (model prog w) A E s (elem' arr i) Q st := by
  rw [elem'_eq, h]
  exact wpS_pure q
theorem wpS_ltq (hO : κ.OneLt) {p q : Keyed} {st : SortSt} {Q : Option Bool → SortSt → Prop} (hk : kindOf st = oneType') (hp : HasK κ p) (hq : HasK κ q) (h : Q (some (kl κ p q)) st) : wpS (model prog w) A E s (lt' p q) Q st := by
  obtain ⟨a, ha⟩ := hp
  obtain ⟨b, hb⟩ := hq
  unfold kl ky at h
  rw [ha, hb] at h
  rw [lt'_eq]
  refine wpS_bind (wpS_get ?_)
  rw [hk, keyLt'_oneType]
  refine wpS_bind (wpS_lift (wpAny_attempt (hO prog w A _ s p.1 q.1 a b ha hb ⟨rfl, ?_⟩)))
  exact wpS_pure h
theorem wpS_beyond (hO : κ.OneLt) {left b : Bool} {key x : Keyed} {arr : Array Keyed} {j : Nat} {st : SortSt} {Q : Option Bool → SortSt → Prop} (hk : kindOf st = oneType') (hx : arr[j]? = some x) (h1 : HasK κ x) (h2 : HasK κ key)
    (b1 : kl κ x key = b) (b2 : kl κ key x = !b) (h : Q (some b) st) :
    wpS (model prog w) A E s (elem' arr j >>= fun x => if left = true then lt' x key else lt' key x >>= fun r => pure (Option.map (fun x => !x) r)) Q st := by
  refine wpS_bind (wpS_elem hx ?_)
  cases left with
  | true =>
    rw [if_pos rfl]
    exact wpS_ltq hO hk h1 h2 (by rw [b1]; exact h)
  | false =>
    rw [if_neg Bool.false_ne_true]
    refine wpS_bind (wpS_ltq hO hk h2 h1 (wpS_pure ?_))
    rw [b2, Option.map_some, Bool.not_not]
    exact h
theorem wpS_gallop (hO : κ.OneLt) {left : Bool} {key : Keyed} {arr : Array Keyed} {base n hint : Nat} {st : SortSt} {Q : Option Nat → SortSt → Prop} (hk : kindOf st = oneType') (hkey : HasK κ key) (hh : hint < n) (b : Nat → Bool)
    (hx : ∀ i, i < n → ∃ x, arr[base + i]? = some x ∧ HasK κ x ∧ kl κ x key = b i ∧ kl κ key x = !b i) (mono : ∀ i j, i ≤ j → j < n → b j = true → b i = true)
    (h : ∀ k, k ≤ n → (∀ i, i < k → b i = true) → (∀ i, k ≤ i → i < n → b i = false) → Q (some k) st) : wpS (model prog w) A E s (gallop' left key arr base n hint) Q st := by
  have monoF : ∀ i j, i ≤ j → j < n → b i = false → b j = false := fun i j hij hj hi => by
    cases e : b j with
    | false => rfl
    | true => rw [mono i j hij hj e] at hi; cases hi
  obtain ⟨x0, e0, k0, p0, q0⟩ := hx hint hh
  refine wpS_bind (wpS_beyond hO hk e0 k0 hkey p0 q0 ?_)
  dsimp only
  cases hb : b hint with
  | true =>
    rw [if_pos rfl]
    refine wpS_bind (wpS_mono (wpS_forRange (I := fun x c st' => st = st' ∧ ∃ lastofs ofs, c = (none, lastofs, ofs) ∧ x + 1 ≤ ofs ∧ lastofs < ofs ∧ hint + lastofs < n ∧ b (hint + lastofs) = true)
      (Q := fun c st' => st = st' ∧ ∃ lastofs ofs, c = (none, lastofs, ofs) ∧ lastofs < ofs ∧ hint + lastofs < n ∧ b (hint + lastofs) = true ∧ (n - hint ≤ ofs ∨ (hint + ofs < n ∧ b (hint + ofs) = false))) ?step ?fin ?init) ?post)
    case init => exact ⟨rfl, 0, 1, rfl, by omega, by omega, by omega, hb⟩
    case fin =>
      rintro c st' ⟨rfl, lastofs, ofs, rfl, h1, h2, h3, h4⟩
      exact ⟨rfl, lastofs, ofs, rfl, h2, h3, h4, .inl (by omega)⟩
    case step =>
      rintro x c st' _ hxn ⟨rfl, lastofs, ofs, rfl, h1, h2, h3, h4⟩
      dsimp only
      by_cases hge : ofs ≥ n - hint
      · rw [if_pos hge]
        exact wpS_pure ⟨rfl, lastofs, ofs, rfl, h2, h3, h4, .inl hge⟩
      · rw [if_neg hge]
        obtain ⟨x1, e1, k1, p1, q1⟩ := hx (hint + ofs) (by omega)
        refine wpS_bind (wpS_beyond hO hk e1 k1 hkey p1 q1 ?_)
        dsimp only
        cases hb1 : b (hint + ofs) with
        | false => exact wpS_pure ⟨rfl, lastofs, ofs, rfl, h2, h3, h4, .inr ⟨by omega, hb1⟩⟩
        | true => exact wpS_pure ⟨rfl, ofs, 2 * ofs + 1, rfl, by omega, by omega, by omega, hb1⟩
    case post =>
      rintro c st' ⟨rfl, lastofs, ofs, rfl, h2, h3, h4, h5⟩
      dsimp only
      have lo1 : ∀ i, i < hint + lastofs + 1 → b i = true := fun i hi => mono i (hint + lastofs) (by omega) h3 h4
      have hi1 : ∀ i, hint + min ofs (n - hint) ≤ i → i < n → b i = false := fun i hi hin => by
        rcases h5 with z | ⟨z1, z2⟩
        · omega
        · exact monoF (hint + ofs) i (by omega) hin z2
      refine wpS_bind (wpS_mono (wpS_forRange (I := fun x c st' => st = st' ∧ ∃ lo hi, c = (none, lo, hi) ∧ lo ≤ hi ∧ hi ≤ n ∧ hi - lo ≤ n - x ∧ (∀ i, i < lo → b i = true) ∧ (∀ i, hi ≤ i → i < n → b i = false))
        (Q := fun c st' => st = st' ∧ ∃ hi, c = (none, hi, hi) ∧ hi ≤ n ∧ (∀ i, i < hi → b i = true) ∧ (∀ i, hi ≤ i → i < n → b i = false)) ?_ ?_ ⟨rfl, _, _, rfl, by omega, by omega, by omega, lo1, hi1⟩) ?_)
      · rintro x c st' _ hxn ⟨rfl, lo, hi, rfl, g1, g2, g3, g4, g5⟩
        dsimp only
        by_cases hge : lo ≥ hi
        · rw [if_pos hge]
          have e : lo = hi := by omega
          subst e
          exact wpS_pure ⟨rfl, lo, rfl, g2, g4, g5⟩
        · rw [if_neg hge]
          obtain ⟨x1, e1, k1, p1, q1⟩ := hx (lo + (hi - lo) / 2) (by omega)
          refine wpS_bind (wpS_beyond hO hk e1 k1 hkey p1 q1 ?_)
          dsimp only
          cases hb1 : b (lo + (hi - lo) / 2) with
          | true => exact wpS_pure ⟨rfl, _, _, rfl, by omega, by omega, by omega, fun i hi' => mono i _ (by omega) (by omega) hb1, g5⟩
          | false => exact wpS_pure ⟨rfl, _, _, rfl, by omega, by omega, by omega, g4, fun i h1 h2 => monoF _ i h1 h2 hb1⟩
      · rintro c st' ⟨rfl, lo, hi, rfl, g1, g2, g3, g4, g5⟩
        have e : lo = hi := by omega
        subst e
        exact ⟨rfl, lo, rfl, g2, g4, g5⟩
      · rintro c st' ⟨rfl, hi, rfl, g2, g4, g5⟩
        exact wpS_pure (h hi g2 g4 g5)
  | false =>
    rw [if_neg Bool.false_ne_true]
    refine wpS_bind (wpS_mono (wpS_forRange (I := fun x c st' => st = st' ∧ ∃ lastofs ofs, c = (none, lastofs, ofs) ∧ x + 1 ≤ ofs ∧ lastofs < ofs ∧ lastofs ≤ hint ∧ b (hint - lastofs) = false)
      (Q := fun c st' => st = st' ∧ ∃ lastofs ofs, c = (none, lastofs, ofs) ∧ lastofs < ofs ∧ lastofs ≤ hint ∧ b (hint - lastofs) = false ∧ (hint + 1 ≤ ofs ∨ (ofs ≤ hint ∧ b (hint - ofs) = true))) ?step2 ?fin2 ?init2) ?post2)
    case init2 => exact ⟨rfl, 0, 1, rfl, by omega, by omega, by omega, hb⟩
    case fin2 =>
      rintro c st' ⟨rfl, lastofs, ofs, rfl, h1, h2, h3, h4⟩
      exact ⟨rfl, lastofs, ofs, rfl, h2, h3, h4, .inl (by omega)⟩
    case step2 =>
      rintro x c st' _ hxn ⟨rfl, lastofs, ofs, rfl, h1, h2, h3, h4⟩
      dsimp only
      by_cases hge : ofs ≥ hint + 1
      · rw [if_pos hge]
        exact wpS_pure ⟨rfl, lastofs, ofs, rfl, h2, h3, h4, .inl hge⟩
      · rw [if_neg hge]
        obtain ⟨x1, e1, k1, p1, q1⟩ := hx (hint - ofs) (by omega)
        refine wpS_bind (wpS_beyond hO hk e1 k1 hkey p1 q1 ?_)
        dsimp only
        cases hb1 : b (hint - ofs) with
        | true => exact wpS_pure ⟨rfl, lastofs, ofs, rfl, h2, h3, h4, .inr ⟨by omega, hb1⟩⟩
        | false => exact wpS_pure ⟨rfl, ofs, 2 * ofs + 1, rfl, by omega, by omega, by omega, hb1⟩
    case post2 =>
      rintro c st' ⟨rfl, lastofs, ofs, rfl, h2, h3, h4, h5⟩
      dsimp only
      have lo1 : ∀ i, i < hint + 1 - min ofs (hint + 1) → b i = true := fun i hi => by
        rcases h5 with z | ⟨z1, z2⟩
        · omega
        · exact mono i (hint - ofs) (by omega) (by omega) z2
      have hi1 : ∀ i, hint - lastofs ≤ i → i < n → b i = false := fun i hi hin => monoF (hint - lastofs) i hi hin h4
      refine wpS_bind (wpS_mono (wpS_forRange (I := fun x c st' => st = st' ∧ ∃ lo hi, c = (none, lo, hi) ∧ lo ≤ hi ∧ hi ≤ n ∧ hi - lo ≤ n - x ∧ (∀ i, i < lo → b i = true) ∧ (∀ i, hi ≤ i → i < n → b i = false))
        (Q := fun c st' => st = st' ∧ ∃ hi, c = (none, hi, hi) ∧ hi ≤ n ∧ (∀ i, i < hi → b i = true) ∧ (∀ i, hi ≤ i → i < n → b i = false)) ?_ ?_ ⟨rfl, _, _, rfl, by omega, by omega, by omega, lo1, hi1⟩) ?_)
      · rintro x c st' _ hxn ⟨rfl, lo, hi, rfl, g1, g2, g3, g4, g5⟩
        dsimp only
        by_cases hge : lo ≥ hi
        · rw [if_pos hge]
          have e : lo = hi := by omega
          subst e
          exact wpS_pure ⟨rfl, lo, rfl, g2, g4, g5⟩
        · rw [if_neg hge]
          obtain ⟨x1, e1, k1, p1, q1⟩ := hx (lo + (hi - lo) / 2) (by omega)
          refine wpS_bind (wpS_beyond hO hk e1 k1 hkey p1 q1 ?_)
          dsimp only
          cases hb1 : b (lo + (hi - lo) / 2) with
          | true => exact wpS_pure ⟨rfl, _, _, rfl, by omega, by omega, by omega, fun i hi' => mono i _ (by omega) (by omega) hb1, g5⟩
          | false => exact wpS_pure ⟨rfl, _, _, rfl, by omega, by omega, by omega, g4, fun i h1 h2 => monoF _ i h1 h2 hb1⟩
      · rintro c st' ⟨rfl, lo, hi, rfl, g1, g2, g3, g4, g5⟩
        have e : lo = hi := by omega
        subst e
        exact ⟨rfl, lo, rfl, g2, g4, g5⟩
      · rintro c st' ⟨rfl, hi, rfl, g2, g4, g5⟩
        exact wpS_pure (h hi g2 g4 g5)
end
end L2
namespace L2
open PySem PySem.Spec PyProof.Rows
structure SameSt (st st' : SortSt) : Prop where
  kind : kindOf st' = kindOf st
  arr : arrOf st' = arrOf st
  pend : pendingOf st' = pendingOf st
  fail : failedOf st' = failedOf st
theorem SameSt.refl (st : SortSt) : SameSt st st := ⟨rfl, rfl, rfl, rfl⟩
theorem SameSt.trans {a b c : SortSt} (h : SameSt a b) (k : SameSt b c) : SameSt a c := ⟨k.kind.trans h.kind, k.arr.trans h.arr, k.pend.trans h.pend, k.fail.trans h.fail⟩
def setMinGallop' : Nat → StateT SortSt Sem Unit := sortPriv% PySem.Builtin.setMinGallop
section
variable {κ : PyProof.Rows.KeyKind}
theorem kl_trans {x y z : Keyed} (h : kl κ x y = true) (k : kl κ y z = true) : kl κ x z = true := κ.trans _ _ _ h k
structure MH (κ : PyProof.Rows.KeyKind) (A B : List Keyed) : Prop where
  ka : ∀ x ∈ A, HasK κ x
  kb : ∀ y ∈ B, HasK κ y
  sa : A.Pairwise fun x y => kl κ x y = true
  sb : B.Pairwise fun x y => kl κ x y = true
  xo : ∀ x ∈ A, ∀ y ∈ B, kl κ y x = !kl κ x y
def Rz (κ : PyProof.Rows.KeyKind) (A B : List Keyed) (r : Array Keyed) : Prop := r.toList.Pairwise (fun x y => kl κ x y = true) ∧ r.toList.Perm (A ++ B)
structure Mrg (κ : PyProof.Rows.KeyKind) (A₀ B₀ O A B : List Keyed) : Prop where
  so : O.Pairwise fun x y => kl κ x y = true
  oa : ∀ x ∈ O, ∀ y ∈ A, kl κ x y = true
  ob : ∀ x ∈ O, ∀ y ∈ B, kl κ x y = true
  pm : (O ++ (A ++ B)).Perm (A₀ ++ B₀)
theorem Mrg.takeA {A₀ B₀ O X A B : List Keyed} (h : Mrg κ A₀ B₀ O (X ++ A) B) (sa : (X ++ A).Pairwise fun x y => kl κ x y = true) (hx : ∀ x ∈ X, ∀ y ∈ B, kl κ x y = true) : Mrg κ A₀ B₀ (O ++ X) A B := by
  rw [List.pairwise_append] at sa
  refine ⟨List.pairwise_append.mpr ⟨h.so, sa.1, fun x hx y hy => h.oa x hx y (List.mem_append_left _ hy)⟩, fun x hx' y hy => ?_, fun x hx' y hy => ?_, ?_⟩
  · rcases List.mem_append.mp hx' with z | z
    · exact h.oa x z y (List.mem_append_right _ hy)
    · exact sa.2.2 x z y hy
  · rcases List.mem_append.mp hx' with z | z
    · exact h.ob x z y hy
    · exact hx x z y hy
  · rw [List.append_assoc, ← List.append_assoc X]
    exact h.pm
theorem Mrg.takeB {A₀ B₀ O X A B : List Keyed} (h : Mrg κ A₀ B₀ O A (X ++ B)) (sb : (X ++ B).Pairwise fun x y => kl κ x y = true) (hx : ∀ x ∈ X, ∀ y ∈ A, kl κ x y = true) : Mrg κ A₀ B₀ (O ++ X) A B := by
  rw [List.pairwise_append] at sb
  refine ⟨List.pairwise_append.mpr ⟨h.so, sb.1, fun x hx y hy => h.ob x hx y (List.mem_append_left _ hy)⟩, fun x hx' y hy => ?_, fun x hx' y hy => ?_, ?_⟩
  · rcases List.mem_append.mp hx' with z | z
    · exact h.oa x z y hy
    · exact hx x z y hy
  · rcases List.mem_append.mp hx' with z | z
    · exact h.ob x z y (List.mem_append_right _ hy)
    · exact sb.2.2 x z y hy
  · refine List.Perm.trans ?_ h.pm
    rw [List.append_assoc]
    refine List.Perm.append_left O ?_
    rw [← List.append_assoc, ← List.append_assoc]
    exact List.Perm.append_right B List.perm_append_comm
theorem Mrg.endA {A₀ B₀ O A B : List Keyed} (h : Mrg κ A₀ B₀ O A B) (sa : A.Pairwise fun x y => kl κ x y = true) (sb : B.Pairwise fun x y => kl κ x y = true) (hab : ∀ x ∈ A, ∀ y ∈ B, kl κ x y = true) : (O ++ (A ++ B)).Pairwise (fun x y => kl κ x y = true) ∧ (O ++ (A ++ B)).Perm (A₀ ++ B₀) := by
  refine ⟨List.pairwise_append.mpr ⟨h.so, List.pairwise_append.mpr ⟨sa, sb, hab⟩, fun x hx y hy => ?_⟩, h.pm⟩
  rcases List.mem_append.mp hy with z | z
  · exact h.oa x hx y z
  · exact h.ob x hx y z
theorem Mrg.endB {A₀ B₀ O A B : List Keyed} (h : Mrg κ A₀ B₀ O A B) (sa : A.Pairwise fun x y => kl κ x y = true) (sb : B.Pairwise fun x y => kl κ x y = true) (hba : ∀ x ∈ B, ∀ y ∈ A, kl κ x y = true) : (O ++ (B ++ A)).Pairwise (fun x y => kl κ x y = true) ∧ (O ++ (B ++ A)).Perm (A₀ ++ B₀) := by
  refine ⟨List.pairwise_append.mpr ⟨h.so, List.pairwise_append.mpr ⟨sb, sa, hba⟩, fun x hx y hy => ?_⟩, (List.Perm.append_left O List.perm_append_comm).trans h.pm⟩
  rcases List.mem_append.mp hy with z | z
  · exact h.ob x hx y z
  · exact h.oa x hx y z
end
section
variable {κ : PyProof.Rows.KeyKind} {a b : Array Keyed}
def Lo (κ : PyProof.Rows.KeyKind) (a b out : Array Keyed) (ia ib : Nat) : Prop := Mrg κ a.toList b.toList out.toList (a.toList.drop ia) (b.toList.drop ib)
theorem ext_list (a : Array Keyed) (i j : Nat) : (a.extract i j).toList = (a.toList.drop i).take (j - i) := by
  rw [Array.toList_extract]
theorem ext_all (a : Array Keyed) (i : Nat) : (a.extract i a.size).toList = a.toList.drop i := by
  rw [ext_list]
  refine List.take_of_length_le ?_
  rw [List.length_drop, Array.length_toList]
  exact Nat.le_refl _
theorem Lo.appA {out : Array Keyed} {ia ib : Nat} (M : MH κ a.toList b.toList) (h : Lo κ a b out ia ib) (k : Nat) (hk : ∀ i, i < k → ∀ x, a[ia + i]? = some x → ∀ y ∈ b.toList.drop ib, kl κ x y = true) : Lo κ a b (out ++ a.extract ia (ia + k)) (ia + k) ib := by
  unfold Lo at h ⊢
  rw [Array.toList_append, ext_list, show ia + k - ia = k by omega]
  have e : a.toList.drop ia = (a.toList.drop ia).take k ++ a.toList.drop (ia + k) := by rw [← List.drop_drop, List.take_append_drop]
  have sa : (a.toList.drop ia).Pairwise fun x y => kl κ x y = true := M.sa.sublist (List.drop_sublist _ _)
  rw [e] at h sa
  refine h.takeA sa fun x hx y hy => ?_
  obtain ⟨i, hi, ex⟩ := List.getElem_of_mem hx
  rw [List.length_take] at hi
  refine hk i (by omega) x ?_ y hy
  rw [← ex, List.getElem_take, List.getElem_drop, Array.getElem_toList, Array.getElem?_eq_getElem]
theorem Lo.appB {out : Array Keyed} {ia ib : Nat} (M : MH κ a.toList b.toList) (h : Lo κ a b out ia ib) (k : Nat) (hk : ∀ i, i < k → ∀ y, b[ib + i]? = some y → ∀ x ∈ a.toList.drop ia, kl κ y x = true) : Lo κ a b (out ++ b.extract ib (ib + k)) ia (ib + k) := by
  unfold Lo at h ⊢
  rw [Array.toList_append, ext_list, show ib + k - ib = k by omega]
  have e : b.toList.drop ib = (b.toList.drop ib).take k ++ b.toList.drop (ib + k) := by rw [← List.drop_drop, List.take_append_drop]
  have sb : (b.toList.drop ib).Pairwise fun x y => kl κ x y = true := M.sb.sublist (List.drop_sublist _ _)
  rw [e] at h sb
  refine h.takeB sb fun x hx y hy => ?_
  obtain ⟨i, hi, ex⟩ := List.getElem_of_mem hx
  rw [List.length_take] at hi
  refine hk i (by omega) x ?_ y hy
  rw [← ex, List.getElem_take, List.getElem_drop, Array.getElem_toList, Array.getElem?_eq_getElem]
theorem at_mem {a : Array Keyed} {i : Nat} {x : Keyed} (h : a[i]? = some x) : x ∈ a.toList := by
  have : a.toList[i]? = some x := by simpa using h
  exact List.mem_of_getElem? this
theorem drop_at {a : Array Keyed} {i : Nat} {x : Keyed} (h : a[i]? = some x) : a.toList.drop i = x :: a.toList.drop (i + 1) := by
  have : a.toList[i]? = some x := by simpa using h
  obtain ⟨h1, h2⟩ := List.getElem?_eq_some_iff.mp this
  rw [List.drop_eq_getElem_cons h1, h2]
theorem low_drop {l : List Keyed} {x y : Keyed} {r : List Keyed} (sl : l.Pairwise fun x y => kl κ x y = true) (e : l = y :: r) (h : kl κ x y = true) : ∀ z ∈ l, kl κ x z = true := fun z hz => by
  subst e
  rcases List.mem_cons.mp hz with rfl | hz
  · exact h
  · exact kl_trans h ((List.pairwise_cons.mp sl).1 z hz)
theorem Lo.pushA {out : Array Keyed} {ia ib : Nat} {x y : Keyed} (M : MH κ a.toList b.toList) (h : Lo κ a b out ia ib) (ha : a[ia]? = some x) (hb : b[ib]? = some y) (hxy : kl κ x y = true) : Lo κ a b (out.push x) (ia + 1) ib := by
  have e : (out ++ a.extract ia (ia + 1)).toList = (out.push x).toList := by
    rw [Array.toList_append, ext_list, drop_at ha, Array.toList_push, show ia + 1 - ia = 1 by omega]
    rfl
  have h2 := h.appA M 1 fun i hi x' hx' => by
    have : i = 0 := by omega
    subst this
    rw [Nat.add_zero, ha] at hx'
    cases hx'
    exact low_drop (M.sb.sublist (List.drop_sublist _ _)) (drop_at hb) hxy
  unfold Lo at h2 ⊢
  rw [e] at h2
  exact h2
theorem Lo.pushB {out : Array Keyed} {ia ib : Nat} {x y : Keyed} (M : MH κ a.toList b.toList) (h : Lo κ a b out ia ib) (ha : a[ia]? = some x) (hb : b[ib]? = some y) (hyx : kl κ y x = true) : Lo κ a b (out.push y) ia (ib + 1) := by
  have e : (out ++ b.extract ib (ib + 1)).toList = (out.push y).toList := by
    rw [Array.toList_append, ext_list, drop_at hb, Array.toList_push, show ib + 1 - ib = 1 by omega]
    rfl
  have h2 := h.appB M 1 fun i hi x' hx' => by
    have : i = 0 := by omega
    subst this
    rw [Nat.add_zero, hb] at hx'
    cases hx'
    exact low_drop (M.sa.sublist (List.drop_sublist _ _)) (drop_at ha) hyx
  unfold Lo at h2 ⊢
  rw [e] at h2
  exact h2
theorem Lo.done {out : Array Keyed} {ia ib : Nat} (M : MH κ a.toList b.toList) (h : Lo κ a b out ia ib) (hb : ib = b.size) : Rz κ a.toList b.toList (out ++ a.extract ia a.size ++ b.extract ib b.size) := by
  have e : (b.toList.drop ib) = [] := List.drop_eq_nil_of_le (by rw [Array.length_toList]; omega)
  have := Mrg.endA h (M.sa.sublist (List.drop_sublist _ _)) (M.sb.sublist (List.drop_sublist _ _)) fun x _ y hy => by rw [e] at hy; cases hy
  unfold Rz
  rw [Array.toList_append, Array.toList_append, ext_all, ext_all, List.append_assoc]
  exact this
theorem Lo.last {out : Array Keyed} {ia ib : Nat} (M : MH κ a.toList b.toList) (h : Lo κ a b out ia ib) (ha : ia + 1 = a.size) (hl : ∀ x, a[a.size - 1]? = some x → ∀ y ∈ b.toList, kl κ y x = true) : Rz κ a.toList b.toList (out ++ b.extract ib b.size ++ a.extract ia a.size) := by
  have := Mrg.endB h (M.sa.sublist (List.drop_sublist _ _)) (M.sb.sublist (List.drop_sublist _ _)) fun x hx y hy => by
    have hx' : x ∈ b.toList := List.mem_of_mem_drop hx
    obtain ⟨z, hz⟩ : ∃ z, a[ia]? = some z := ⟨_, Array.getElem?_eq_getElem (by omega)⟩
    rw [drop_at hz, List.drop_eq_nil_of_le (by rw [Array.length_toList]; omega)] at hy
    rw [List.mem_singleton.mp hy]
    exact hl z (by rw [← ha]; exact hz) x hx'
  unfold Rz
  rw [Array.toList_append, Array.toList_append, ext_all, ext_all, List.append_assoc]
  exact this
theorem Lo.size {out : Array Keyed} {ia ib : Nat} (h : Lo κ a b out ia ib) : out.size + (a.size - ia) + (b.size - ib) = a.size + b.size := by
  have := h.pm.length_eq
  rw [List.length_append, List.length_append, List.length_append, List.length_drop, List.length_drop, Array.length_toList, Array.length_toList, Array.length_toList] at this
  omega
end
section
variable {prog : Program} {w : World} {A : Around} {E : Value → Shared → Prop} {s : Shared} {κ : PyProof.Rows.KeyKind} {a b : Array Keyed}
theorem get_some {a : Array Keyed} {i : Nat} (h : i < a.size) : ∃ x, a[i]? = some x := ⟨_, Array.getElem?_eq_getElem h⟩
theorem Lo.gallopA (hO : κ.OneLt) {out : Array Keyed} {ia ib : Nat} {y : Keyed} {left : Bool} {st : SortSt} {Q : Option Nat → SortSt → Prop} (M : MH κ a.toList b.toList) (h : Lo κ a b out ia ib) (hk : kindOf st = oneType') (hy : b[ib]? = some y) (hia : ia < a.size)
    (q : ∀ k, ia + k ≤ a.size → Lo κ a b (out ++ a.extract ia (ia + k)) (ia + k) ib → (∀ x, a[ia + k]? = some x → kl κ y x = true) → (∀ i, i < k → ∀ x, a[ia + i]? = some x → kl κ x y = true) → Q (some k) st) :
    wpS (model prog w) A E s (gallop' left y a ia (a.size - ia) 0) Q st := by
  have hym := at_mem hy
  refine wpS_gallop hO hk (M.kb y hym) (by omega) (fun i => match a[ia + i]? with | some x => kl κ x y | none => false) (fun i hi => ?_) (fun i j hij hj hb => ?_) fun k hk1 hk2 hk3 => ?_
  · obtain ⟨x, hx⟩ := get_some (a := a) (i := ia + i) (by omega)
    refine ⟨x, hx, M.ka x (at_mem hx), by rw [hx], ?_⟩
    rw [hx]
    exact M.xo x (at_mem hx) y hym
  · obtain ⟨x, hx⟩ := get_some (a := a) (i := ia + i) (by omega)
    obtain ⟨z, hz⟩ := get_some (a := a) (i := ia + j) (by omega)
    rw [hz] at hb
    rw [hx]
    by_cases e : i = j
    · subst e
      rw [hx] at hz
      cases hz
      exact hb
    · have hxz : kl κ x z = true := by
        have := M.sa
        rw [List.pairwise_iff_getElem] at this
        have h1 : ia + i < a.toList.length := by rw [Array.length_toList]; omega
        have h2 : ia + j < a.toList.length := by rw [Array.length_toList]; omega
        have := this (ia + i) (ia + j) h1 h2 (by omega)
        rw [Array.getElem?_eq_getElem (by omega)] at hx hz
        cases hx
        cases hz
        simpa using this
      exact kl_trans hxz hb
  · refine q k (by omega) (h.appA M k fun i hi x hx => ?_) (fun x hx => ?_) fun i hi x hx => ?_
    · have := hk2 i hi
      rw [hx] at this
      exact low_drop (M.sb.sublist (List.drop_sublist _ _)) (drop_at hy) this
    · have hlt : ia + k < a.size := (Array.getElem?_eq_some_iff.mp hx).1
      have := hk3 k (Nat.le_refl _) (by omega)
      rw [hx] at this
      have h2 := M.xo x (at_mem hx) y hym
      rw [show kl κ x y = false from this] at h2
      exact h2
    · have := hk2 i hi
      rw [hx] at this
      exact this
theorem Lo.gallopB (hO : κ.OneLt) {out : Array Keyed} {ia ib : Nat} {x : Keyed} {left : Bool} {st : SortSt} {Q : Option Nat → SortSt → Prop} (M : MH κ a.toList b.toList) (h : Lo κ a b out ia ib) (hk : kindOf st = oneType') (hx : a[ia]? = some x) (hib : ib < b.size)
    (q : ∀ k, ib + k ≤ b.size → Lo κ a b (out ++ b.extract ib (ib + k)) ia (ib + k) → (∀ y, b[ib + k]? = some y → kl κ x y = true) → Q (some k) st) :
    wpS (model prog w) A E s (gallop' left x b ib (b.size - ib) 0) Q st := by
  have hxm := at_mem hx
  have xo' : ∀ y ∈ b.toList, kl κ x y = !kl κ y x := fun y hy => by rw [M.xo x hxm y hy, Bool.not_not]
  refine wpS_gallop hO hk (M.ka x hxm) (by omega) (fun i => match b[ib + i]? with | some y => kl κ y x | none => false) (fun i hi => ?_) (fun i j hij hj hb => ?_) fun k hk1 hk2 hk3 => ?_
  · obtain ⟨y, hy⟩ := get_some (a := b) (i := ib + i) (by omega)
    refine ⟨y, hy, M.kb y (at_mem hy), by rw [hy], ?_⟩
    rw [hy]
    exact xo' y (at_mem hy)
  · obtain ⟨y, hy⟩ := get_some (a := b) (i := ib + i) (by omega)
    obtain ⟨z, hz⟩ := get_some (a := b) (i := ib + j) (by omega)
    rw [hz] at hb
    rw [hy]
    by_cases e : i = j
    · subst e
      rw [hy] at hz
      cases hz
      exact hb
    · have hyz : kl κ y z = true := by
        have := M.sb
        rw [List.pairwise_iff_getElem] at this
        have h1 : ib + i < b.toList.length := by rw [Array.length_toList]; omega
        have h2 : ib + j < b.toList.length := by rw [Array.length_toList]; omega
        have := this (ib + i) (ib + j) h1 h2 (by omega)
        rw [Array.getElem?_eq_getElem (by omega)] at hy hz
        cases hy
        cases hz
        simpa using this
      exact kl_trans hyz hb
  · refine q k (by omega) (h.appB M k fun i hi y hy => ?_) fun y hy => ?_
    · have := hk2 i hi
      rw [hy] at this
      exact low_drop (M.sa.sublist (List.drop_sublist _ _)) (drop_at hx) this
    · have hlt : ib + k < b.size := (Array.getElem?_eq_some_iff.mp hy).1
      have := hk3 k (Nat.le_refl _) (by omega)
      rw [hy] at this
      rw [xo' y (at_mem hy), show kl κ y x = false from this]
      rfl
theorem wpS_setMin {st : SortSt} {g : Nat} {Q : Unit → SortSt → Prop} (h : ∀ st2, SameSt st st2 → Q () st2) : wpS (model prog w) A E s (setMinGallop' g) Q st :=
  wpS_modify (h _ ⟨rfl, rfl, rfl, rfl⟩)
theorem wpS_mergeLo (hO : κ.OneLt) {st : SortSt} {Q : Array Keyed → SortSt → Prop} (M : MH κ a.toList b.toList) (hk : kindOf st = oneType') (h1 : 1 ≤ a.size) (h2 : 1 ≤ b.size)
    (hf : ∀ y, b[0]? = some y → ∀ x, a[0]? = some x → kl κ y x = true) (hl : ∀ x, a[a.size - 1]? = some x → ∀ y ∈ b.toList, kl κ y x = true) (h : ∀ r st', SameSt st st' → Rz κ a.toList b.toList r → Q r st') :
    wpS (model prog w) A E s (mergeLo' a b) Q st := by
  have hl2 : ∀ {i : Nat} {x y : Keyed}, a[i]? = some x → y ∈ b.toList → kl κ x y = true → i + 1 < a.size := fun {i x y} hx hy hxy => by
    have hi := (Array.getElem?_eq_some_iff.mp hx).1
    by_cases e : i = a.size - 1
    · subst e
      have := hl x hx y hy
      have h3 := κ.trans _ _ _ hxy this
      rw [κ.irrefl] at h3
      cases h3
    · omega
  obtain ⟨y0, e0⟩ := get_some (a := b) (i := 0) (by omega)
  obtain ⟨x0, f0⟩ := get_some (a := a) (i := 0) (by omega)
  have I0 : Lo κ a b #[y0] 0 1 := by
    have : Lo κ a b #[] 0 0 := ⟨List.Pairwise.nil, fun _ z => (nomatch z), fun _ z => (nomatch z), List.Perm.refl _⟩
    exact this.pushB M f0 e0 (hf y0 e0 x0 f0)
  refine wpS_bind (wpS_lift (wpAny_rule ⟨rfl, ?_⟩))
  dsimp only
  refine wpS_bind (wpS_elem e0 ?_)
  by_cases hb1 : (1 == b.size) = true
  · rw [if_pos hb1]
    exact wpS_pure (h _ _ (SameSt.refl _) (I0.done M (eq_of_beq hb1)))
  rw [if_neg hb1]
  have hb1' : 1 ≠ b.size := fun z => hb1 (by rw [← z]; rfl)
  by_cases ha1 : (0 + 1 == a.size) = true
  · rw [if_pos ha1]
    exact wpS_pure (h _ _ (SameSt.refl _) (I0.last M (eq_of_beq ha1) hl))
  rw [if_neg ha1]
  have ha1' : 0 + 1 ≠ a.size := fun z => ha1 (by rw [← z]; rfl)
  refine wpS_bind (wpS_get ?_)
  refine wpS_bind (wpS_mono (wpS_forRange (I := fun x c st' => SameSt st st' ∧ ∃ out ia ib g, c = (none, out, ia, ib, g) ∧ Lo κ a b out ia ib ∧ ia + 1 < a.size ∧ ib < b.size ∧ x + 1 ≤ out.size)
    (Q := fun c st' => SameSt st st' ∧ ∃ r rest, c = (some r, rest) ∧ Rz κ a.toList b.toList r) ?step ?fin ?init) ?post)
  case init => exact ⟨SameSt.refl _, _, _, _, _, rfl, I0, by omega, by omega, Nat.le_refl _⟩
  case fin =>
    rintro c st' ⟨ss, out, ia, ib, g, rfl, I, l1, l2, l3⟩
    have := I.size
    omega
  case post =>
    rintro c st' ⟨ss, r, rest, rfl, hr⟩
    exact wpS_pure (h r st' ss hr)
  case step =>
    rintro x c st1 _ hx ⟨ss, out, ia, ib, g, rfl, I, l1, l2, l3⟩
    dsimp only
    refine wpS_bind (wpS_mono (wpS_forRange (I := fun x' c st' => st1 = st' ∧ ∃ out ia ib ac bc, c = (none, out, ia, ib, ac, bc) ∧ Lo κ a b out ia ib ∧ ia + 1 < a.size ∧ ib < b.size ∧ x + 1 + x' ≤ out.size)
      (Q := fun c st' => st1 = st' ∧ ((∃ r rest, c = (some r, rest) ∧ Rz κ a.toList b.toList r) ∨ ∃ out ia ib ac bc, c = (none, out, ia, ib, ac, bc) ∧ Lo κ a b out ia ib ∧ ia + 1 < a.size ∧ ib < b.size ∧ x + 2 ≤ out.size)) ?_ ?_ ⟨rfl, out, ia, ib, 0, 0, rfl, I, l1, l2, l3⟩) ?_)
    · rintro x' c st' _ hx' ⟨rfl, out, ia, ib, ac, bc, rfl, I, l1, l2, l3⟩
      dsimp only
      obtain ⟨y, ey⟩ := get_some (a := b) l2
      obtain ⟨z, ez⟩ := get_some (a := a) (i := ia) (by omega)
      refine wpS_bind (wpS_elem ey ?_)
      refine wpS_bind (wpS_elem ez ?_)
      refine wpS_bind (wpS_ltq hO (ss.kind.trans hk) (M.kb y (at_mem ey)) (M.ka z (at_mem ez)) ?_)
      dsimp only
      cases hlt : kl κ y z with
      | true =>
        rw [if_pos rfl]
        refine wpS_bind (wpS_elem ey ?_)
        have I2 := I.pushB M ez ey hlt
        by_cases e1 : (ib + 1 == b.size) = true
        · rw [if_pos e1]
          exact wpS_pure ⟨rfl, .inl ⟨_, _, rfl, I2.done M (eq_of_beq e1)⟩⟩
        rw [if_neg e1]
        have e1' : ib + 1 ≠ b.size := fun z => e1 (by rw [← z]; exact beq_self_eq_true _)
        split
        · exact wpS_pure ⟨rfl, .inr ⟨_, _, _, _, _, rfl, I2, l1, by omega, by rw [Array.size_push]; omega⟩⟩
        · exact wpS_pure ⟨rfl, _, _, _, _, _, rfl, I2, l1, by omega, by rw [Array.size_push]; omega⟩
      | false =>
        rw [if_neg Bool.false_ne_true]
        refine wpS_bind (wpS_elem ez ?_)
        have hzy : kl κ z y = true := by
          have := M.xo z (at_mem ez) y (at_mem ey)
          rw [hlt] at this
          cases e : kl κ z y with
          | true => rfl
          | false => rw [e] at this; cases this
        have I2 := I.pushA M ez ey hzy
        by_cases e1 : (ia + 1 + 1 == a.size) = true
        · rw [if_pos e1]
          exact wpS_pure ⟨rfl, .inl ⟨_, _, rfl, I2.last M (eq_of_beq e1) hl⟩⟩
        rw [if_neg e1]
        have e1' : ia + 1 + 1 ≠ a.size := fun z => e1 (by rw [← z]; exact beq_self_eq_true _)
        split
        · exact wpS_pure ⟨rfl, .inr ⟨_, _, _, _, _, rfl, I2, by omega, l2, by rw [Array.size_push]; omega⟩⟩
        · exact wpS_pure ⟨rfl, _, _, _, _, _, rfl, I2, by omega, l2, by rw [Array.size_push]; omega⟩
    · rintro c st' ⟨rfl, out, ia, ib, ac, bc, rfl, I, l1, l2, l3⟩
      exact ⟨rfl, .inr ⟨out, ia, ib, ac, bc, rfl, I, l1, l2, by omega⟩⟩
    · rintro c st' ⟨rfl, ⟨r, rest, rfl, hr⟩ | ⟨out, ia, ib, ac, bc, rfl, I, l1, l2, l3⟩⟩
      · exact wpS_pure ⟨ss, r, _, rfl, hr⟩
      · dsimp only
        refine wpS_bind (wpS_lift (wpAny_rule ⟨rfl, ?_⟩))
        refine wpS_bind (wpS_mono (wpS_forRange (I := fun x' c st' => SameSt st st' ∧ ∃ out ia ib g ac bc, c = (none, out, ia, ib, g, ac, bc) ∧ Lo κ a b out ia ib ∧ ia + 1 < a.size ∧ ib < b.size ∧ x + 2 ≤ out.size)
          (Q := fun c st' => SameSt st st' ∧ ((∃ r rest, c = (some r, rest) ∧ Rz κ a.toList b.toList r) ∨ ∃ out ia ib g ac bc, c = (none, out, ia, ib, g, ac, bc) ∧ Lo κ a b out ia ib ∧ ia + 1 < a.size ∧ ib < b.size ∧ x + 2 ≤ out.size)) ?_ ?_ ⟨ss, out, ia, ib, _, ac, bc, rfl, I, l1, l2, l3⟩) ?_)
        · rintro x' c st' _ hx' ⟨ss', out, ia, ib, g', ac, bc, rfl, I, l1, l2, l3⟩
          dsimp only
          obtain ⟨y, ey⟩ := get_some (a := b) l2
          by_cases hg : g' > 1
          case' pos => rw [if_pos hg]
          case' neg => rw [if_neg hg]
          all_goals
            refine wpS_bind (wpS_setMin fun st2 ss2 => ?_)
            have ss2 := ss'.trans ss2
            have hk2 := ss2.kind.trans hk
            refine wpS_bind (wpS_elem ey ?_)
            refine wpS_bind (I.gallopA hO M hk2 ey (by omega) fun k k1 I1 k3 k4 => ?_)
            dsimp only
            have hkl : ia + k + 1 ≤ a.size := by
              cases k with
              | zero => omega
              | succ k =>
                obtain ⟨z, ez⟩ := get_some (a := a) (i := ia + k) (by omega)
                have := hl2 ez (at_mem ey) (k4 k (by omega) z ez)
                omega
            have hos : out.size ≤ (out ++ a.extract ia (ia + k)).size := by rw [Array.size_append]; omega
            by_cases hk0 : k > 0
            · rw [if_pos hk0]
              by_cases e1 : (ia + k + 1 == a.size) = true
              · rw [if_pos e1]
                exact wpS_pure ⟨ss2, .inl ⟨_, _, rfl, I1.last M (eq_of_beq e1) hl⟩⟩
              rw [if_neg e1]
              have e1' : ia + k + 1 ≠ a.size := fun z => e1 (by rw [← z]; exact beq_self_eq_true _)
              rw [if_neg (fun z => by have := eq_of_beq z; omega)]
              have l1' : ia + k + 1 < a.size := by omega
              generalize out ++ a.extract ia (ia + k) = out1 at I1 hos
              generalize ia + k = ia1 at I1 k3 l1'
              obtain ⟨z, ez⟩ := get_some (a := a) (i := ia1) (by omega)
              refine wpS_bind (wpS_elem ey ?_)
              have I2 := I1.pushB M ez ey (k3 z ez)
              by_cases e2 : (ib + 1 == b.size) = true
              · rw [if_pos e2]
                exact wpS_pure ⟨ss2, .inl ⟨_, _, rfl, I2.done M (eq_of_beq e2)⟩⟩
              rw [if_neg e2]
              have e2' : ib + 1 ≠ b.size := fun z => e2 (by rw [← z]; exact beq_self_eq_true _)
              refine wpS_bind (wpS_elem ez ?_)
              refine wpS_bind (I2.gallopB hO M hk2 ez (by omega) fun m m1 I3 m3 => ?_)
              dsimp only
              by_cases hm0 : m > 0
              · rw [if_pos hm0]
                by_cases e3 : (ib + 1 + m == b.size) = true
                · rw [if_pos e3]
                  exact wpS_pure ⟨ss2, .inl ⟨_, _, rfl, I3.done M (eq_of_beq e3)⟩⟩
                rw [if_neg e3]
                have e3' : ib + 1 + m ≠ b.size := fun z => e3 (by rw [← z]; exact beq_self_eq_true _)
                obtain ⟨v, ev⟩ := get_some (a := b) (i := ib + 1 + m) (by omega)
                refine wpS_bind (wpS_elem ez ?_)
                have I4 := I3.pushA M ez ev (m3 v ev)
                by_cases e4 : (ia1 + 1 + 1 == a.size) = true
                · rw [if_pos e4]
                  exact wpS_pure ⟨ss2, .inl ⟨_, _, rfl, I4.last M (eq_of_beq e4) hl⟩⟩
                rw [if_neg e4]
                have e4' : ia1 + 1 + 1 ≠ a.size := fun z => e4 (by rw [← z]; exact beq_self_eq_true _)
                have hz : x + 2 ≤ ((out1.push y ++ b.extract (ib + 1) (ib + 1 + m)).push z).size := by rw [Array.size_push, Array.size_append, Array.size_push]; omega
                split
                · exact wpS_pure ⟨ss2, .inr ⟨_, _, _, _, _, _, rfl, I4, by omega, by omega, hz⟩⟩
                · exact wpS_pure ⟨ss2, _, _, _, _, _, _, rfl, I4, by omega, by omega, hz⟩
              · rw [if_neg hm0]
                have hm00 : m = 0 := by omega
                obtain ⟨v, ev⟩ := get_some (a := b) (i := ib + 1) (by omega)
                refine wpS_bind (wpS_elem ez ?_)
                have I4 := I2.pushA M ez ev (m3 v (by rw [hm00]; exact ev))
                by_cases e4 : (ia1 + 1 + 1 == a.size) = true
                · rw [if_pos e4]
                  exact wpS_pure ⟨ss2, .inl ⟨_, _, rfl, I4.last M (eq_of_beq e4) hl⟩⟩
                rw [if_neg e4]
                have e4' : ia1 + 1 + 1 ≠ a.size := fun z => e4 (by rw [← z]; exact beq_self_eq_true _)
                have hz : x + 2 ≤ ((out1.push y).push z).size := by rw [Array.size_push, Array.size_push]; omega
                split
                · exact wpS_pure ⟨ss2, .inr ⟨_, _, _, _, _, _, rfl, I4, by omega, by omega, hz⟩⟩
                · exact wpS_pure ⟨ss2, _, _, _, _, _, _, rfl, I4, by omega, by omega, hz⟩
            · rw [if_neg hk0]
              have hk00 : k = 0 := by omega
              have l1' : ia + 1 < a.size := l1
              have k3 : ∀ x, a[ia]? = some x → kl κ y x = true := fun x hx => k3 x (by rw [hk00]; exact hx)
              have I1 := I
              have hos : out.size ≤ out.size := Nat.le_refl _
              obtain ⟨z, ez⟩ := get_some (a := a) (i := ia) (by omega)
              refine wpS_bind (wpS_elem ey ?_)
              have I2 := I1.pushB M ez ey (k3 z ez)
              by_cases e2 : (ib + 1 == b.size) = true
              · rw [if_pos e2]
                exact wpS_pure ⟨ss2, .inl ⟨_, _, rfl, I2.done M (eq_of_beq e2)⟩⟩
              rw [if_neg e2]
              have e2' : ib + 1 ≠ b.size := fun z => e2 (by rw [← z]; exact beq_self_eq_true _)
              refine wpS_bind (wpS_elem ez ?_)
              refine wpS_bind (I2.gallopB hO M hk2 ez (by omega) fun m m1 I3 m3 => ?_)
              dsimp only
              by_cases hm0 : m > 0
              · rw [if_pos hm0]
                by_cases e3 : (ib + 1 + m == b.size) = true
                · rw [if_pos e3]
                  exact wpS_pure ⟨ss2, .inl ⟨_, _, rfl, I3.done M (eq_of_beq e3)⟩⟩
                rw [if_neg e3]
                have e3' : ib + 1 + m ≠ b.size := fun z => e3 (by rw [← z]; exact beq_self_eq_true _)
                obtain ⟨v, ev⟩ := get_some (a := b) (i := ib + 1 + m) (by omega)
                refine wpS_bind (wpS_elem ez ?_)
                have I4 := I3.pushA M ez ev (m3 v ev)
                by_cases e4 : (ia + 1 + 1 == a.size) = true
                · rw [if_pos e4]
                  exact wpS_pure ⟨ss2, .inl ⟨_, _, rfl, I4.last M (eq_of_beq e4) hl⟩⟩
                rw [if_neg e4]
                have e4' : ia + 1 + 1 ≠ a.size := fun z => e4 (by rw [← z]; exact beq_self_eq_true _)
                have hz : x + 2 ≤ ((out.push y ++ b.extract (ib + 1) (ib + 1 + m)).push z).size := by rw [Array.size_push, Array.size_append, Array.size_push]; omega
                split
                · exact wpS_pure ⟨ss2, .inr ⟨_, _, _, _, _, _, rfl, I4, by omega, by omega, hz⟩⟩
                · exact wpS_pure ⟨ss2, _, _, _, _, _, _, rfl, I4, by omega, by omega, hz⟩
              · rw [if_neg hm0]
                have hm00 : m = 0 := by omega
                obtain ⟨v, ev⟩ := get_some (a := b) (i := ib + 1) (by omega)
                refine wpS_bind (wpS_elem ez ?_)
                have I4 := I2.pushA M ez ev (m3 v (by rw [hm00]; exact ev))
                by_cases e4 : (ia + 1 + 1 == a.size) = true
                · rw [if_pos e4]
                  exact wpS_pure ⟨ss2, .inl ⟨_, _, rfl, I4.last M (eq_of_beq e4) hl⟩⟩
                rw [if_neg e4]
                have e4' : ia + 1 + 1 ≠ a.size := fun z => e4 (by rw [← z]; exact beq_self_eq_true _)
                have hz : x + 2 ≤ ((out.push y).push z).size := by rw [Array.size_push, Array.size_push]; omega
                split
                · exact wpS_pure ⟨ss2, .inr ⟨_, _, _, _, _, _, rfl, I4, by omega, by omega, hz⟩⟩
                · exact wpS_pure ⟨ss2, _, _, _, _, _, _, rfl, I4, by omega, by omega, hz⟩
        · rintro c st' ⟨ss', out, ia, ib, g', ac, bc, rfl, I, l1, l2, l3⟩
          exact ⟨ss', .inr ⟨out, ia, ib, g', ac, bc, rfl, I, l1, l2, l3⟩⟩
        · rintro c st' ⟨ss', ⟨r, rest, rfl, hr⟩ | ⟨out, ia, ib, g', ac, bc, rfl, I, l1, l2, l3⟩⟩
          · exact wpS_pure ⟨ss', r, _, rfl, hr⟩
          · dsimp only
            refine wpS_bind (wpS_modify (wpS_pure ?_))
            exact ⟨ss'.trans ⟨rfl, rfl, rfl, rfl⟩, out, ia, ib, _, rfl, I, l1, l2, by omega⟩
end
end L2
namespace L2
open PySem PySem.Spec PyProof.Rows
section
variable {κ : PyProof.Rows.KeyKind}
structure MrgH (κ : PyProof.Rows.KeyKind) (A₀ B₀ O A B : List Keyed) : Prop where
  so : O.Pairwise fun x y => kl κ x y = true
  oa : ∀ x ∈ A, ∀ y ∈ O, kl κ x y = true
  ob : ∀ x ∈ B, ∀ y ∈ O, kl κ x y = true
  pm : (A ++ (B ++ O)).Perm (A₀ ++ B₀)
theorem MrgH.takeA {A₀ B₀ O X A B : List Keyed} (h : MrgH κ A₀ B₀ O (A ++ X) B) (sa : (A ++ X).Pairwise fun x y => kl κ x y = true) (hx : ∀ x ∈ X, ∀ y ∈ B, kl κ y x = true) : MrgH κ A₀ B₀ (X ++ O) A B := by
  rw [List.pairwise_append] at sa
  refine ⟨List.pairwise_append.mpr ⟨sa.2.1, h.so, fun x hx y hy => h.oa x (List.mem_append_right _ hx) y hy⟩, fun x hx' y hy => ?_, fun x hx' y hy => ?_, ?_⟩
  · rcases List.mem_append.mp hy with z | z
    · exact sa.2.2 x hx' y z
    · exact h.oa x (List.mem_append_left _ hx') y z
  · rcases List.mem_append.mp hy with z | z
    · exact hx y z x hx'
    · exact h.ob x hx' y z
  · refine List.Perm.trans ?_ h.pm
    rw [List.append_assoc]
    refine List.Perm.append_left A ?_
    rw [← List.append_assoc, ← List.append_assoc]
    exact List.Perm.append_right O List.perm_append_comm
theorem MrgH.takeB {A₀ B₀ O X A B : List Keyed} (h : MrgH κ A₀ B₀ O A (B ++ X)) (sb : (B ++ X).Pairwise fun x y => kl κ x y = true) (hx : ∀ x ∈ X, ∀ y ∈ A, kl κ y x = true) : MrgH κ A₀ B₀ (X ++ O) A B := by
  rw [List.pairwise_append] at sb
  refine ⟨List.pairwise_append.mpr ⟨sb.2.1, h.so, fun x hx y hy => h.ob x (List.mem_append_right _ hx) y hy⟩, fun x hx' y hy => ?_, fun x hx' y hy => ?_, ?_⟩
  · rcases List.mem_append.mp hy with z | z
    · exact hx y z x hx'
    · exact h.oa x hx' y z
  · rcases List.mem_append.mp hy with z | z
    · exact sb.2.2 x hx' y z
    · exact h.ob x (List.mem_append_left _ hx') y z
  · have := h.pm
    rw [List.append_assoc] at this
    exact this
end
section
variable {κ : PyProof.Rows.KeyKind} {a b : Array Keyed}
def Hi (κ : PyProof.Rows.KeyKind) (a b out : Array Keyed) (na nb : Nat) : Prop := MrgH κ a.toList b.toList out.toList.reverse (a.toList.take na) (b.toList.take nb)
theorem take_cut {a : Array Keyed} {i n : Nat} (h : i ≤ n) : a.toList.take n = a.toList.take i ++ (a.toList.drop i).take (n - i) := by
  conv => lhs; rw [← List.take_append_drop i (a.toList.take n)]
  rw [List.take_take, Nat.min_eq_left h, List.drop_take]
theorem rev_out (out ext : Array Keyed) : (out ++ ext.reverse).toList.reverse = ext.toList ++ out.toList.reverse := by
  rw [Array.toList_append, Array.toList_reverse, List.reverse_append, List.reverse_reverse]
theorem mem_cut {a : Array Keyed} {i n : Nat} {x : Keyed} (h : x ∈ (a.toList.drop i).take (n - i)) : ∃ j, i ≤ j ∧ j < n ∧ a[j]? = some x := by
  obtain ⟨j, hj, ex⟩ := List.getElem_of_mem h
  rw [List.length_take, List.length_drop] at hj
  refine ⟨i + j, by omega, by omega, ?_⟩
  rw [← ex, List.getElem_take, List.getElem_drop, Array.getElem_toList, Array.getElem?_eq_getElem]
theorem Hi.appA {out : Array Keyed} {na nb i : Nat} (M : MH κ a.toList b.toList) (h : Hi κ a b out na nb) (hi : i ≤ na) (hk : ∀ j, i ≤ j → j < na → ∀ x, a[j]? = some x → ∀ y ∈ b.toList.take nb, kl κ y x = true) : Hi κ a b (out ++ (a.extract i na).reverse) i nb := by
  unfold Hi at h ⊢
  rw [rev_out, ext_list]
  have sa : (a.toList.take na).Pairwise fun x y => kl κ x y = true := M.sa.sublist (List.take_sublist _ _)
  rw [take_cut hi] at h sa
  refine h.takeA sa fun x hx y hy => ?_
  obtain ⟨j, h1, h2, h3⟩ := mem_cut hx
  exact hk j h1 h2 x h3 y hy
theorem Hi.appB {out : Array Keyed} {na nb i : Nat} (M : MH κ a.toList b.toList) (h : Hi κ a b out na nb) (hi : i ≤ nb) (hk : ∀ j, i ≤ j → j < nb → ∀ y, b[j]? = some y → ∀ x ∈ a.toList.take na, kl κ x y = true) : Hi κ a b (out ++ (b.extract i nb).reverse) na i := by
  unfold Hi at h ⊢
  rw [rev_out, ext_list]
  have sb : (b.toList.take nb).Pairwise fun x y => kl κ x y = true := M.sb.sublist (List.take_sublist _ _)
  rw [take_cut hi] at h sb
  refine h.takeB sb fun x hx y hy => ?_
  obtain ⟨j, h1, h2, h3⟩ := mem_cut hx
  exact hk j h1 h2 x h3 y hy
theorem take_at {a : Array Keyed} {n : Nat} {x : Keyed} (hn : 1 ≤ n) (h : a[n - 1]? = some x) : a.toList.take n = a.toList.take (n - 1) ++ [x] := by
  have h' : a.toList[n - 1]? = some x := by simpa using h
  have e : n = n - 1 + 1 := by omega
  conv => lhs; rw [e, List.take_add_one, h']
  rfl
theorem high_take {l r : List Keyed} {x y : Keyed} (sl : l.Pairwise fun x y => kl κ x y = true) (e : l = r ++ [y]) (h : kl κ y x = true) : ∀ z ∈ l, kl κ z x = true := fun z hz => by
  subst e
  rw [List.pairwise_append] at sl
  rcases List.mem_append.mp hz with z' | z'
  · exact kl_trans (sl.2.2 z z' y List.mem_cons_self) h
  · rw [List.mem_singleton.mp z']
    exact h
theorem Hi.pushA {out : Array Keyed} {na nb : Nat} {x y : Keyed} (M : MH κ a.toList b.toList) (h : Hi κ a b out na nb) (h1 : 1 ≤ na) (h2 : 1 ≤ nb) (ha : a[na - 1]? = some x) (hb : b[nb - 1]? = some y) (hyx : kl κ y x = true) : Hi κ a b (out.push x) (na - 1) nb := by
  unfold Hi at h ⊢
  rw [Array.toList_push, List.reverse_append]
  have sa : (a.toList.take na).Pairwise fun x y => kl κ x y = true := M.sa.sublist (List.take_sublist _ _)
  rw [take_at h1 ha] at h sa
  refine h.takeA sa fun z hz v hv => ?_
  rw [List.mem_singleton.mp hz]
  exact high_take (M.sb.sublist (List.take_sublist _ _)) (take_at h2 hb) hyx v hv
theorem Hi.pushB {out : Array Keyed} {na nb : Nat} {x y : Keyed} (M : MH κ a.toList b.toList) (h : Hi κ a b out na nb) (h1 : 1 ≤ na) (h2 : 1 ≤ nb) (ha : a[na - 1]? = some x) (hb : b[nb - 1]? = some y) (hxy : kl κ x y = true) : Hi κ a b (out.push y) na (nb - 1) := by
  unfold Hi at h ⊢
  rw [Array.toList_push, List.reverse_append]
  have sb : (b.toList.take nb).Pairwise fun x y => kl κ x y = true := M.sb.sublist (List.take_sublist _ _)
  rw [take_at h2 hb] at h sb
  refine h.takeB sb fun z hz v hv => ?_
  rw [List.mem_singleton.mp hz]
  exact high_take (M.sa.sublist (List.take_sublist _ _)) (take_at h1 ha) hxy v hv
theorem ext_zero (a : Array Keyed) (n : Nat) : (a.extract 0 n).toList = a.toList.take n := by
  rw [ext_list, List.drop_zero, Nat.sub_zero]
theorem Hi.done {out : Array Keyed} {na nb : Nat} (M : MH κ a.toList b.toList) (h : Hi κ a b out na nb) (hn : na = 0) : Rz κ a.toList b.toList (a.extract 0 na ++ b.extract 0 nb ++ out.reverse) := by
  unfold Hi at h
  unfold Rz
  rw [Array.toList_append, Array.toList_append, ext_zero, ext_zero, Array.toList_reverse, List.append_assoc]
  subst hn
  refine ⟨?_, h.pm⟩
  rw [List.take_zero, List.nil_append]
  exact List.pairwise_append.mpr ⟨M.sb.sublist (List.take_sublist _ _), h.so, h.ob⟩
theorem Hi.first {out : Array Keyed} {na nb : Nat} (M : MH κ a.toList b.toList) (h : Hi κ a b out na nb) (hn : nb = 1) (hf : ∀ y, b[0]? = some y → ∀ x ∈ a.toList, kl κ y x = true) : Rz κ a.toList b.toList (b.extract 0 nb ++ a.extract 0 na ++ out.reverse) := by
  unfold Hi at h
  unfold Rz
  rw [Array.toList_append, Array.toList_append, ext_zero, ext_zero, Array.toList_reverse]
  subst hn
  refine ⟨?_, ?_⟩
  · refine List.pairwise_append.mpr ⟨List.pairwise_append.mpr ⟨M.sb.sublist (List.take_sublist _ _), M.sa.sublist (List.take_sublist _ _), fun y hy x hx => ?_⟩, h.so, fun x hx y hy => ?_⟩
    · obtain ⟨j, hj, e⟩ := List.getElem_of_mem hy
      rw [List.length_take, Array.length_toList] at hj
      have : j = 0 := by omega
      subst this
      refine hf y ?_ x (List.mem_of_mem_take hx)
      rw [← e, List.getElem_take, Array.getElem_toList, Array.getElem?_eq_getElem]
    · rcases List.mem_append.mp hx with z | z
      · exact h.ob x z y hy
      · exact h.oa x z y hy
  · refine List.Perm.trans ?_ h.pm
    rw [← List.append_assoc]
    exact List.Perm.append_right _ List.perm_append_comm
theorem Hi.size {out : Array Keyed} {na nb : Nat} (h : Hi κ a b out na nb) (h1 : na ≤ a.size) (h2 : nb ≤ b.size) : out.size + na + nb = a.size + b.size := by
  have := h.pm.length_eq
  rw [List.length_append, List.length_append, List.length_append, List.length_take, List.length_take, List.length_reverse, Array.length_toList, Array.length_toList, Array.length_toList] at this
  omega
end
section
variable {prog : Program} {w : World} {A : Around} {E : Value → Shared → Prop} {s : Shared} {κ : PyProof.Rows.KeyKind} {a b : Array Keyed}
theorem srt_at {l : Array Keyed} (sl : l.toList.Pairwise fun x y => kl κ x y = true) {i j : Nat} {x y : Keyed} (hij : i < j) (hx : l[i]? = some x) (hy : l[j]? = some y) : kl κ x y = true := by
  rw [List.pairwise_iff_getElem] at sl
  obtain ⟨h1, e1⟩ := Array.getElem?_eq_some_iff.mp hx
  obtain ⟨h2, e2⟩ := Array.getElem?_eq_some_iff.mp hy
  have := sl i j (by rw [Array.length_toList]; exact h1) (by rw [Array.length_toList]; exact h2) hij
  rw [Array.getElem_toList, Array.getElem_toList, e1, e2] at this
  exact this
theorem gallop_in (hO : κ.OneLt) {l : Array Keyed} {n hint : Nat} {y : Keyed} {left : Bool} {st : SortSt} {Q : Option Nat → SortSt → Prop} (sl : l.toList.Pairwise fun x y => kl κ x y = true) (kl_ : ∀ x ∈ l.toList, HasK κ x) (hky : HasK κ y) (xo : ∀ x ∈ l.toList, kl κ y x = !kl κ x y) (hk : kindOf st = oneType') (hn : n ≤ l.size) (hh : hint < n)
    (q : ∀ k, k ≤ n → (∀ i, i < k → ∀ x, l[i]? = some x → kl κ x y = true) → (∀ i, k ≤ i → i < n → ∀ x, l[i]? = some x → kl κ y x = true) → Q (some k) st) :
    wpS (model prog w) A E s (gallop' left y l 0 n hint) Q st := by
  refine wpS_gallop hO hk hky hh (fun i => match l[i]? with | some x => kl κ x y | none => false) (fun i hi => ?_) (fun i j hij hj hb => ?_) fun k hk1 hk2 hk3 => q k hk1 (fun i hi x hx => ?_) fun i h1 h2 x hx => ?_
  · obtain ⟨x, hx⟩ := get_some (a := l) (i := i) (by omega)
    refine ⟨x, by rw [Nat.zero_add]; exact hx, kl_ x (at_mem hx), by rw [hx], ?_⟩
    rw [hx]
    exact xo x (at_mem hx)
  · obtain ⟨x, hx⟩ := get_some (a := l) (i := i) (by omega)
    obtain ⟨z, hz⟩ := get_some (a := l) (i := j) (by omega)
    rw [hz] at hb
    rw [hx]
    by_cases e : i = j
    · subst e
      rw [hx] at hz
      cases hz
      exact hb
    · exact kl_trans (srt_at sl (by omega) hx hz) hb
  · have := hk2 i hi
    rw [hx] at this
    exact this
  · have := hk3 i h1 h2
    rw [hx] at this
    rw [xo x (at_mem hx), show kl κ x y = false from this]
    rfl
theorem Hi.gallopA (hO : κ.OneLt) {out : Array Keyed} {na nb : Nat} {y : Keyed} {left : Bool} {st : SortSt} {Q : Option Nat → SortSt → Prop} (M : MH κ a.toList b.toList) (h : Hi κ a b out na nb) (hk : kindOf st = oneType') (h1 : 1 ≤ na) (hna : na ≤ a.size) (h2 : 1 ≤ nb) (hy : b[nb - 1]? = some y)
    (q : ∀ i, i ≤ na → Hi κ a b (out ++ (a.extract i na).reverse) i nb → (∀ x, 1 ≤ i → a[i - 1]? = some x → kl κ x y = true) → Q (some i) st) :
    wpS (model prog w) A E s (gallop' left y a 0 na (na - 1)) Q st := by
  have hym := at_mem hy
  refine gallop_in hO M.sa M.ka (M.kb y hym) (fun x hx => M.xo x hx y hym) hk hna (by omega) fun k hk1 hk2 hk3 => q k hk1 (h.appA M hk1 fun j j1 j2 x hx => ?_) fun x hk0 hx => hk2 (k - 1) (by omega) x hx
  exact high_take (M.sb.sublist (List.take_sublist _ _)) (take_at h2 hy) (hk3 j j1 j2 x hx)
theorem Hi.gallopB (hO : κ.OneLt) {out : Array Keyed} {na nb : Nat} {x : Keyed} {left : Bool} {st : SortSt} {Q : Option Nat → SortSt → Prop} (M : MH κ a.toList b.toList) (h : Hi κ a b out na nb) (hk : kindOf st = oneType') (h1 : 1 ≤ na) (hnb : nb ≤ b.size) (h2 : 1 ≤ nb) (hx : a[na - 1]? = some x)
    (q : ∀ i, i ≤ nb → Hi κ a b (out ++ (b.extract i nb).reverse) na i → (∀ y, 1 ≤ i → b[i - 1]? = some y → kl κ y x = true) → (∀ y, i < nb → b[i]? = some y → kl κ x y = true) → Q (some i) st) :
    wpS (model prog w) A E s (gallop' left x b 0 nb (nb - 1)) Q st := by
  have hxm := at_mem hx
  refine gallop_in hO M.sb M.kb (M.ka x hxm) (fun y hy => by rw [M.xo x hxm y hy, Bool.not_not]) hk hnb (by omega) fun k hk1 hk2 hk3 => q k hk1 (h.appB M hk1 fun j j1 j2 y hy => ?_) (fun y hk0 hy => hk2 (k - 1) (by omega) y hy) fun y hk0 hy => hk3 k (Nat.le_refl _) hk0 y hy
  exact high_take (M.sa.sublist (List.take_sublist _ _)) (take_at h1 hx) (hk3 j j1 j2 y hy)
theorem wpS_mergeHi (hO : κ.OneLt) {st : SortSt} {Q : Array Keyed → SortSt → Prop} (M : MH κ a.toList b.toList) (hk : kindOf st = oneType') (h1 : 1 ≤ a.size) (h2 : 1 ≤ b.size)
    (hf : ∀ y, b[0]? = some y → ∀ x ∈ a.toList, kl κ y x = true) (hl : ∀ x, a[a.size - 1]? = some x → ∀ y, b[b.size - 1]? = some y → kl κ y x = true) (h : ∀ r st', SameSt st st' → Rz κ a.toList b.toList r → Q r st') :
    wpS (model prog w) A E s (mergeHi' a b) Q st := by
  obtain ⟨x0, e0⟩ := get_some (a := a) (i := a.size - 1) (by omega)
  obtain ⟨y0, f0⟩ := get_some (a := b) (i := b.size - 1) (by omega)
  obtain ⟨yf, ef⟩ := get_some (a := b) (i := 0) (by omega)
  have I0 : Hi κ a b #[x0] (a.size - 1) b.size := by
    have : Hi κ a b #[] a.size b.size := by
      unfold Hi
      rw [List.take_of_length_le (by rw [Array.length_toList]; exact Nat.le_refl _), List.take_of_length_le (by rw [Array.length_toList]; exact Nat.le_refl _)]
      exact ⟨List.Pairwise.nil, fun _ _ _ z => (nomatch z), fun _ _ _ z => (nomatch z), by rw [show (#[] : Array Keyed).toList.reverse = [] from rfl, List.append_nil]⟩
    exact this.pushA M h1 h2 e0 f0 (hl x0 e0 y0 f0)
  refine wpS_bind (wpS_lift (wpAny_rule ⟨rfl, ?_⟩))
  dsimp only
  refine wpS_bind (wpS_elem e0 ?_)
  by_cases ha1 : (a.size - 1 == 0) = true
  · rw [if_pos ha1]
    exact wpS_pure (h _ _ (SameSt.refl _) (I0.done M (eq_of_beq ha1)))
  rw [if_neg ha1]
  have ha1' : a.size - 1 ≠ 0 := fun z => ha1 (by rw [z]; rfl)
  by_cases hb1 : (b.size == 1) = true
  · rw [if_pos hb1]
    exact wpS_pure (h _ _ (SameSt.refl _) (I0.first M (eq_of_beq hb1) hf))
  rw [if_neg hb1]
  have hb1' : b.size ≠ 1 := fun z => hb1 (by rw [z]; rfl)
  refine wpS_bind (wpS_get ?_)
  refine wpS_bind (wpS_mono (wpS_forRange (I := fun x c st' => SameSt st st' ∧ ∃ na nb out g, c = (none, na, nb, out, g) ∧ Hi κ a b out na nb ∧ 1 ≤ na ∧ na ≤ a.size ∧ 2 ≤ nb ∧ nb ≤ b.size ∧ x + 1 ≤ out.size)
    (Q := fun c st' => SameSt st st' ∧ ∃ r rest, c = (some r, rest) ∧ Rz κ a.toList b.toList r) ?step ?fin ?init) ?post)
  case init =>
    refine ⟨SameSt.refl _, _, _, _, _, rfl, I0, by omega, by omega, by omega, Nat.le_refl _, Nat.le_refl _⟩
  case fin =>
    rintro c st' ⟨ss, na, nb, out, g, rfl, I, l1, l2, l3, l4, l5⟩
    have := I.size l2 l4
    omega
  case post =>
    rintro c st' ⟨ss, r, rest, rfl, hr⟩
    exact wpS_pure (h r st' ss hr)
  case step =>
    rintro x c st1 _ hx ⟨ss, na, nb, out, g, rfl, I, l1, l2, l3, l4, l5⟩
    dsimp only
    refine wpS_bind (wpS_mono (wpS_forRange (I := fun x' c st' => st1 = st' ∧ ∃ na nb out ac bc, c = (none, na, nb, out, ac, bc) ∧ Hi κ a b out na nb ∧ 1 ≤ na ∧ na ≤ a.size ∧ 2 ≤ nb ∧ nb ≤ b.size ∧ x + 1 + x' ≤ out.size)
      (Q := fun c st' => st1 = st' ∧ ((∃ r rest, c = (some r, rest) ∧ Rz κ a.toList b.toList r) ∨ ∃ na nb out ac bc, c = (none, na, nb, out, ac, bc) ∧ Hi κ a b out na nb ∧ 1 ≤ na ∧ na ≤ a.size ∧ 2 ≤ nb ∧ nb ≤ b.size ∧ x + 2 ≤ out.size)) ?_ ?_ ⟨rfl, na, nb, out, 0, 0, rfl, I, l1, l2, l3, l4, l5⟩) ?_)
    · rintro x' c st' _ hx' ⟨rfl, na, nb, out, ac, bc, rfl, I, l1, l2, l3, l4, l5⟩
      dsimp only
      obtain ⟨y, ey⟩ := get_some (a := b) (i := nb - 1) (by omega)
      obtain ⟨z, ez⟩ := get_some (a := a) (i := na - 1) (by omega)
      refine wpS_bind (wpS_elem ey ?_)
      refine wpS_bind (wpS_elem ez ?_)
      refine wpS_bind (wpS_ltq hO (ss.kind.trans hk) (M.kb y (at_mem ey)) (M.ka z (at_mem ez)) ?_)
      dsimp only
      cases hlt : kl κ y z with
      | true =>
        rw [if_pos rfl]
        refine wpS_bind (wpS_elem ez ?_)
        have I2 := I.pushA M l1 (by omega) ez ey hlt
        by_cases e1 : (na - 1 == 0) = true
        · rw [if_pos e1]
          exact wpS_pure ⟨rfl, .inl ⟨_, _, rfl, I2.done M (eq_of_beq e1)⟩⟩
        rw [if_neg e1]
        have e1' : na - 1 ≠ 0 := fun z => e1 (by rw [z]; rfl)
        split
        · exact wpS_pure ⟨rfl, .inr ⟨_, _, _, _, _, rfl, I2, by omega, by omega, l3, l4, by rw [Array.size_push]; omega⟩⟩
        · exact wpS_pure ⟨rfl, _, _, _, _, _, rfl, I2, by omega, by omega, l3, l4, by rw [Array.size_push]; omega⟩
      | false =>
        rw [if_neg Bool.false_ne_true]
        refine wpS_bind (wpS_elem ey ?_)
        have hzy : kl κ z y = true := by
          have := M.xo z (at_mem ez) y (at_mem ey)
          rw [hlt] at this
          cases e : kl κ z y with
          | true => rfl
          | false => rw [e] at this; cases this
        have I2 := I.pushB M l1 (by omega) ez ey hzy
        by_cases e1 : (nb - 1 == 1) = true
        · rw [if_pos e1]
          exact wpS_pure ⟨rfl, .inl ⟨_, _, rfl, I2.first M (eq_of_beq e1) hf⟩⟩
        rw [if_neg e1]
        have e1' : nb - 1 ≠ 1 := fun z => e1 (by rw [z]; rfl)
        split
        · exact wpS_pure ⟨rfl, .inr ⟨_, _, _, _, _, rfl, I2, l1, l2, by omega, by omega, by rw [Array.size_push]; omega⟩⟩
        · exact wpS_pure ⟨rfl, _, _, _, _, _, rfl, I2, l1, l2, by omega, by omega, by rw [Array.size_push]; omega⟩
    · rintro c st' ⟨rfl, na, nb, out, ac, bc, rfl, I, l1, l2, l3, l4, l5⟩
      exact ⟨rfl, .inr ⟨na, nb, out, ac, bc, rfl, I, l1, l2, l3, l4, by omega⟩⟩
    · rintro c st' ⟨rfl, ⟨r, rest, rfl, hr⟩ | ⟨na, nb, out, ac, bc, rfl, I, l1, l2, l3, l4, l5⟩⟩
      · exact wpS_pure ⟨ss, r, _, rfl, hr⟩
      · dsimp only
        refine wpS_bind (wpS_lift (wpAny_rule ⟨rfl, ?_⟩))
        refine wpS_bind (wpS_mono (wpS_forRange (I := fun x' c st' => SameSt st st' ∧ ∃ na nb out g ac bc, c = (none, na, nb, out, g, ac, bc) ∧ Hi κ a b out na nb ∧ 1 ≤ na ∧ na ≤ a.size ∧ 2 ≤ nb ∧ nb ≤ b.size ∧ x + 2 ≤ out.size)
          (Q := fun c st' => SameSt st st' ∧ ((∃ r rest, c = (some r, rest) ∧ Rz κ a.toList b.toList r) ∨ ∃ na nb out g ac bc, c = (none, na, nb, out, g, ac, bc) ∧ Hi κ a b out na nb ∧ 1 ≤ na ∧ na ≤ a.size ∧ 2 ≤ nb ∧ nb ≤ b.size ∧ x + 2 ≤ out.size)) ?_ ?_ ⟨ss, na, nb, out, _, ac, bc, rfl, I, l1, l2, l3, l4, l5⟩) ?_)
        · rintro x' c st' _ hx' ⟨ss', na, nb, out, g', ac, bc, rfl, I, l1, l2, l3, l4, l5⟩
          dsimp only
          obtain ⟨y, ey⟩ := get_some (a := b) (i := nb - 1) (by omega)
          by_cases hg : g' > 1
          case' pos => rw [if_pos hg]
          case' neg => rw [if_neg hg]
          all_goals
            refine wpS_bind (wpS_setMin fun st2 ss2 => ?_)
            have ss2 := ss'.trans ss2
            have hk2 := ss2.kind.trans hk
            refine wpS_bind (wpS_elem ey ?_)
            refine wpS_bind (I.gallopA hO M hk2 l1 l2 (by omega) ey fun i i1 I1 k3 => ?_)
            dsimp only
            have hos : out.size ≤ (out ++ (a.extract i na).reverse).size := by rw [Array.size_append]; omega
            by_cases hk0 : na - i > 0
            · rw [if_pos hk0]
              by_cases e1 : (i == 0) = true
              · rw [if_pos e1]
                exact wpS_pure ⟨ss2, .inl ⟨_, _, rfl, I1.done M (eq_of_beq e1)⟩⟩
              rw [if_neg e1]
              have n1 : 1 ≤ i := by
                have : i ≠ 0 := fun z => e1 (by rw [z]; rfl)
                omega
              generalize out ++ (a.extract i na).reverse = out1 at I1 hos
              obtain ⟨z, ez⟩ := get_some (a := a) (i := i - 1) (by omega)
              refine wpS_bind (wpS_elem ey ?_)
              have I2 := I1.pushB M n1 (by omega) ez ey (k3 z n1 ez)
              by_cases e2 : (nb - 1 == 1) = true
              · rw [if_pos e2]
                exact wpS_pure ⟨ss2, .inl ⟨_, _, rfl, I2.first M (eq_of_beq e2) hf⟩⟩
              rw [if_neg e2]
              have e2' : nb - 1 ≠ 1 := fun z => e2 (by rw [z]; rfl)
              refine wpS_bind (wpS_elem ez ?_)
              refine wpS_bind (I2.gallopB hO M hk2 n1 (by omega) (by omega) ez fun j j1 I3 j3 j4 => ?_)
              dsimp only
              have hj0 : 1 ≤ j := by
                by_cases e : j = 0
                · subst e
                  have h3 := κ.trans _ _ _ (j4 yf (by omega) ef) (hf yf ef z (at_mem ez))
                  rw [κ.irrefl] at h3
                  cases h3
                · omega
              by_cases hm0 : nb - 1 - j > 0
              · rw [if_pos hm0]
                by_cases e3 : (j == 1) = true
                · rw [if_pos e3]
                  exact wpS_pure ⟨ss2, .inl ⟨_, _, rfl, I3.first M (eq_of_beq e3) hf⟩⟩
                rw [if_neg e3]
                have e3' : j ≠ 1 := fun z => e3 (by rw [z]; rfl)
                rw [if_neg (fun z => by have := eq_of_beq z; omega)]
                obtain ⟨v, ev⟩ := get_some (a := b) (i := j - 1) (by omega)
                refine wpS_bind (wpS_elem ez ?_)
                have I4 := I3.pushA M n1 hj0 ez ev (j3 v hj0 ev)
                by_cases e4 : (i - 1 == 0) = true
                · rw [if_pos e4]
                  exact wpS_pure ⟨ss2, .inl ⟨_, _, rfl, I4.done M (eq_of_beq e4)⟩⟩
                rw [if_neg e4]
                have e4' : i - 1 ≠ 0 := fun z => e4 (by rw [z]; rfl)
                have hz : x + 2 ≤ ((out1.push y ++ (b.extract j (nb - 1)).reverse).push z).size := by rw [Array.size_push, Array.size_append, Array.size_push]; omega
                split
                · exact wpS_pure ⟨ss2, .inr ⟨_, _, _, _, _, _, rfl, I4, by omega, by omega, by omega, by omega, hz⟩⟩
                · exact wpS_pure ⟨ss2, _, _, _, _, _, _, rfl, I4, by omega, by omega, by omega, by omega, hz⟩
              · rw [if_neg hm0]
                have hj00 : j = nb - 1 := by omega
                obtain ⟨v, ev⟩ := get_some (a := b) (i := nb - 1 - 1) (by omega)
                refine wpS_bind (wpS_elem ez ?_)
                have I4 := I2.pushA M n1 (by omega) ez ev (j3 v hj0 (by rw [hj00]; exact ev))
                by_cases e4 : (i - 1 == 0) = true
                · rw [if_pos e4]
                  exact wpS_pure ⟨ss2, .inl ⟨_, _, rfl, I4.done M (eq_of_beq e4)⟩⟩
                rw [if_neg e4]
                have e4' : i - 1 ≠ 0 := fun z => e4 (by rw [z]; rfl)
                have hz : x + 2 ≤ ((out1.push y).push z).size := by rw [Array.size_push, Array.size_push]; omega
                split
                · exact wpS_pure ⟨ss2, .inr ⟨_, _, _, _, _, _, rfl, I4, by omega, by omega, by omega, by omega, hz⟩⟩
                · exact wpS_pure ⟨ss2, _, _, _, _, _, _, rfl, I4, by omega, by omega, by omega, by omega, hz⟩
            · rw [if_neg hk0]
              have hi0 : i = na := by omega
              have n1 : 1 ≤ na := l1
              have k3 : ∀ x, 1 ≤ na → a[na - 1]? = some x → kl κ x y = true := fun x hn hx => k3 x (by omega) (by rw [hi0]; exact hx)
              have I1 := I
              have hos : out.size ≤ out.size := Nat.le_refl _
              obtain ⟨z, ez⟩ := get_some (a := a) (i := na - 1) (by omega)
              refine wpS_bind (wpS_elem ey ?_)
              have I2 := I1.pushB M n1 (by omega) ez ey (k3 z n1 ez)
              by_cases e2 : (nb - 1 == 1) = true
              · rw [if_pos e2]
                exact wpS_pure ⟨ss2, .inl ⟨_, _, rfl, I2.first M (eq_of_beq e2) hf⟩⟩
              rw [if_neg e2]
              have e2' : nb - 1 ≠ 1 := fun z => e2 (by rw [z]; rfl)
              refine wpS_bind (wpS_elem ez ?_)
              refine wpS_bind (I2.gallopB hO M hk2 n1 (by omega) (by omega) ez fun j j1 I3 j3 j4 => ?_)
              dsimp only
              have hj0 : 1 ≤ j := by
                by_cases e : j = 0
                · subst e
                  have h3 := κ.trans _ _ _ (j4 yf (by omega) ef) (hf yf ef z (at_mem ez))
                  rw [κ.irrefl] at h3
                  cases h3
                · omega
              by_cases hm0 : nb - 1 - j > 0
              · rw [if_pos hm0]
                by_cases e3 : (j == 1) = true
                · rw [if_pos e3]
                  exact wpS_pure ⟨ss2, .inl ⟨_, _, rfl, I3.first M (eq_of_beq e3) hf⟩⟩
                rw [if_neg e3]
                have e3' : j ≠ 1 := fun z => e3 (by rw [z]; rfl)
                rw [if_neg (fun z => by have := eq_of_beq z; omega)]
                obtain ⟨v, ev⟩ := get_some (a := b) (i := j - 1) (by omega)
                refine wpS_bind (wpS_elem ez ?_)
                have I4 := I3.pushA M n1 hj0 ez ev (j3 v hj0 ev)
                by_cases e4 : (na - 1 == 0) = true
                · rw [if_pos e4]
                  exact wpS_pure ⟨ss2, .inl ⟨_, _, rfl, I4.done M (eq_of_beq e4)⟩⟩
                rw [if_neg e4]
                have e4' : na - 1 ≠ 0 := fun z => e4 (by rw [z]; rfl)
                have hz : x + 2 ≤ ((out.push y ++ (b.extract j (nb - 1)).reverse).push z).size := by rw [Array.size_push, Array.size_append, Array.size_push]; omega
                split
                · exact wpS_pure ⟨ss2, .inr ⟨_, _, _, _, _, _, rfl, I4, by omega, by omega, by omega, by omega, hz⟩⟩
                · exact wpS_pure ⟨ss2, _, _, _, _, _, _, rfl, I4, by omega, by omega, by omega, by omega, hz⟩
              · rw [if_neg hm0]
                have hj00 : j = nb - 1 := by omega
                obtain ⟨v, ev⟩ := get_some (a := b) (i := nb - 1 - 1) (by omega)
                refine wpS_bind (wpS_elem ez ?_)
                have I4 := I2.pushA M n1 (by omega) ez ev (j3 v hj0 (by rw [hj00]; exact ev))
                by_cases e4 : (na - 1 == 0) = true
                · rw [if_pos e4]
                  exact wpS_pure ⟨ss2, .inl ⟨_, _, rfl, I4.done M (eq_of_beq e4)⟩⟩
                rw [if_neg e4]
                have e4' : na - 1 ≠ 0 := fun z => e4 (by rw [z]; rfl)
                have hz : x + 2 ≤ ((out.push y).push z).size := by rw [Array.size_push, Array.size_push]; omega
                split
                · exact wpS_pure ⟨ss2, .inr ⟨_, _, _, _, _, _, rfl, I4, by omega, by omega, by omega, by omega, hz⟩⟩
                · exact wpS_pure ⟨ss2, _, _, _, _, _, _, rfl, I4, by omega, by omega, by omega, by omega, hz⟩
        · rintro c st' ⟨ss', na, nb, out, g', ac, bc, rfl, I, l1, l2, l3, l4, l5⟩
          exact ⟨ss', .inr ⟨na, nb, out, g', ac, bc, rfl, I, l1, l2, l3, l4, l5⟩⟩
        · rintro c st' ⟨ss', ⟨r, rest, rfl, hr⟩ | ⟨na, nb, out, g', ac, bc, rfl, I, l1, l2, l3, l4, l5⟩⟩
          · exact wpS_pure ⟨ss', r, _, rfl, hr⟩
          · dsimp only
            refine wpS_bind (wpS_modify (wpS_pure ?_))
            exact ⟨ss'.trans ⟨rfl, rfl, rfl, rfl⟩, na, nb, out, _, rfl, I, l1, l2, l3, l4, by omega⟩
end
end L2
namespace L2
open PySem PySem.Spec PyProof.Rows
section
variable {κ : PyProof.Rows.KeyKind} {a₀ : Array Keyed}
structure Unl (κ : PyProof.Rows.KeyKind) (a₀ : Array Keyed) : Prop where
  hk : ∀ x ∈ a₀.toList, HasK κ x
  un : a₀.toList.Pairwise fun x y => kl κ x y = true ∨ kl κ y x = true
structure Sb (a₀ : Array Keyed) (st : SortSt) : Prop where
  perm : (arrOf st).Perm a₀
  kind : kindOf st = oneType'
  fail : failedOf st = none
theorem Sb.size {st : SortSt} (h : Sb a₀ st) : (arrOf st).size = a₀.size := h.perm.size_eq
theorem kl_asymm {x y : Keyed} (h : kl κ x y = true) : kl κ y x = false := by
  cases e : kl κ y x with
  | false => rfl
  | true =>
    have := kl_trans h e
    unfold kl at this
    rw [κ.irrefl] at this
    cases this
theorem Sb.has (U : Unl κ a₀) {st : SortSt} (h : Sb a₀ st) {i : Nat} {x : Keyed} (hx : (arrOf st)[i]? = some x) : HasK κ x :=
  U.hk x ((Array.perm_iff_toList_perm.mp h.perm).mem_iff.mp (at_mem hx))
theorem Sb.un (U : Unl κ a₀) {st : SortSt} (h : Sb a₀ st) {i j : Nat} {x y : Keyed} (hij : i ≠ j) (hx : (arrOf st)[i]? = some x) (hy : (arrOf st)[j]? = some y) : kl κ y x = !kl κ x y := by
  have hp : (arrOf st).toList.Pairwise fun x y => kl κ x y = true ∨ kl κ y x = true := (List.Perm.pairwise_iff (fun {x y} z => z.symm) (Array.perm_iff_toList_perm.mp h.perm)).mpr U.un
  rw [List.pairwise_iff_getElem] at hp
  obtain ⟨h1, e1⟩ := Array.getElem?_eq_some_iff.mp hx
  obtain ⟨h2, e2⟩ := Array.getElem?_eq_some_iff.mp hy
  have key : kl κ x y = true ∨ kl κ y x = true := by
    rcases Nat.lt_or_gt_of_ne hij with z | z
    · have := hp i j (by rw [Array.length_toList]; exact h1) (by rw [Array.length_toList]; exact h2) z
      rw [Array.getElem_toList, Array.getElem_toList, e1, e2] at this
      exact this
    · have := hp j i (by rw [Array.length_toList]; exact h2) (by rw [Array.length_toList]; exact h1) z
      rw [Array.getElem_toList, Array.getElem_toList, e1, e2] at this
      exact this.symm
  rcases key with z | z
  · rw [z, kl_asymm z]; rfl
  · rw [z, kl_asymm z]; rfl
def SrtI (κ : PyProof.Rows.KeyKind) (arr : Array Keyed) (lo m : Nat) : Prop := ∀ i j x y, i < j → j < m → arr[lo + i]? = some x → arr[lo + j]? = some y → kl κ x y = true
def DscI (κ : PyProof.Rows.KeyKind) (arr : Array Keyed) (lo m : Nat) : Prop := ∀ i j x y, i < j → j < m → arr[lo + i]? = some x → arr[lo + j]? = some y → kl κ y x = true
structure Rl (lo : Nat) (st st' : SortSt) : Prop where
  perm : (arrOf st').Perm (arrOf st)
  low : ∀ i, i < lo → (arrOf st')[i]? = (arrOf st)[i]?
  kind : kindOf st' = kindOf st
  pend : pendingOf st' = pendingOf st
  fail : failedOf st' = failedOf st
theorem Rl.refl (lo : Nat) (st : SortSt) : Rl lo st st := ⟨Array.Perm.refl _, fun _ _ => rfl, rfl, rfl, rfl⟩
theorem Rl.trans {lo : Nat} {a b c : SortSt} (h : Rl lo a b) (k : Rl lo b c) : Rl lo a c := ⟨k.perm.trans h.perm, fun i hi => (k.low i hi).trans (h.low i hi), k.kind.trans h.kind, k.pend.trans h.pend, k.fail.trans h.fail⟩
theorem Rl.sb {lo : Nat} {st st' : SortSt} (h : Rl lo st st') (k : Sb a₀ st) : Sb a₀ st' := ⟨h.perm.trans k.perm, h.kind.trans k.kind, h.fail.trans k.fail⟩
theorem SrtI.one {arr : Array Keyed} {lo : Nat} : SrtI κ arr lo 1 := fun i j _ _ h1 h2 => by omega
theorem SrtI.snoc {arr : Array Keyed} {lo n : Nat} (h : SrtI κ arr lo n) (hn : 1 ≤ n) (hs : lo + n < arr.size) (hl : ∀ x y, arr[lo + (n - 1)]? = some x → arr[lo + n]? = some y → kl κ x y = true) : SrtI κ arr lo (n + 1) := fun i j x y hij hj hx hy => by
  by_cases e : j = n
  · subst e
    obtain ⟨z, hz⟩ := get_some (a := arr) (i := lo + (j - 1)) (by omega)
    by_cases e2 : i = j - 1
    · subst e2
      exact hl x y hx hy
    · exact kl_trans (h i (j - 1) x z (by omega) (by omega) hx hz) (hl z y hz hy)
  · exact h i j x y hij (by omega) hx hy
theorem DscI.snoc {arr : Array Keyed} {lo n : Nat} (h : DscI κ arr lo n) (hn : 1 ≤ n) (hs : lo + n < arr.size) (hl : ∀ x y, arr[lo + (n - 1)]? = some x → arr[lo + n]? = some y → kl κ y x = true) : DscI κ arr lo (n + 1) := fun i j x y hij hj hx hy => by
  by_cases e : j = n
  · subst e
    obtain ⟨z, hz⟩ := get_some (a := arr) (i := lo + (j - 1)) (by omega)
    by_cases e2 : i = j - 1
    · subst e2
      exact hl x y hx hy
    · exact kl_trans (hl z y hz hy) (h i (j - 1) x z (by omega) (by omega) hx hz)
  · exact h i j x y hij (by omega) hx hy
theorem DscI.rev {arr : Array Keyed} {lo n : Nat} (h : DscI κ arr lo n) (hs : lo + n ≤ arr.size) : SrtI κ (mirror arr lo (lo + n) ((lo + n - lo) / 2)) lo n := fun i j x y hij hj hx hy => by
  rw [getElem?_mirror_all hs, if_pos ⟨by omega, by omega⟩] at hx hy
  have e1 : lo + (lo + n) - 1 - (lo + i) = lo + (n - 1 - i) := by omega
  have e2 : lo + (lo + n) - 1 - (lo + j) = lo + (n - 1 - j) := by omega
  rw [e1] at hx
  rw [e2] at hy
  exact h (n - 1 - j) (n - 1 - i) y x (by omega) (by omega) hy hx
end
section
variable {prog : Program} {w : World} {A : Around} {E : Value → Shared → Prop} {s : Shared} {κ : PyProof.Rows.KeyKind} {a₀ : Array Keyed}
theorem wpS_ltI (hO : κ.OneLt) (U : Unl κ a₀) {st : SortSt} (hS : Sb a₀ st) {i j : Nat} {x y : Keyed} {Q : Option Bool → SortSt → Prop} (hx : (arrOf st)[i]? = some x) (hy : (arrOf st)[j]? = some y) (q : Q (some (kl κ x y)) st) : wpS (model prog w) A E s (ltAt' i j) Q st := by
  rw [ltAt'_eq]
  refine wpS_bind (wpS_get ?_)
  refine wpS_bind (wpS_elem hx ?_)
  refine wpS_bind (wpS_elem hy ?_)
  exact wpS_ltq hO hS.kind (hS.has U hx) (hS.has U hy) q
theorem wpS_countRunI (hO : κ.OneLt) (U : Unl κ a₀) {st : SortSt} {lo nrem : Nat} {Q : Option Nat → SortSt → Prop} (hS : Sb a₀ st) (h1 : 1 ≤ nrem) (hn : lo + nrem ≤ a₀.size)
    (h : ∀ m st', 1 ≤ m → m ≤ nrem → Rl lo st st' → SrtI κ (arrOf st') lo m → Q (some m) st') : wpS (model prog w) A E s (countRun' lo nrem) Q st := by
  have hz := hS.size
  refine wpS_bind (wpS_mono (wpS_forRange (I := fun x c st' => st = st' ∧ c = (none, x) ∧ 1 ≤ x ∧ x ≤ nrem ∧ SrtI κ (arrOf st) lo x)
    (Q := fun c st' => st = st' ∧ ∃ n, c = (none, n) ∧ 1 ≤ n ∧ n ≤ nrem ∧ SrtI κ (arrOf st) lo n ∧ (n < nrem → ∀ x y, (arrOf st)[lo + (n - 1)]? = some x → (arrOf st)[lo + n]? = some y → kl κ y x = true)) ?step ?fin ⟨rfl, rfl, Nat.le_refl _, h1, SrtI.one⟩) ?post)
  case fin =>
    rintro c st' ⟨rfl, rfl, g1, g2, g3⟩
    exact ⟨rfl, max 1 nrem, rfl, g1, g2, g3, fun z => by omega⟩
  case step =>
    rintro x c st' hx1 hx ⟨rfl, rfl, g1, g2, g3⟩
    dsimp only
    obtain ⟨u, eu⟩ := get_some (a := arrOf st) (i := lo + x) (by omega)
    obtain ⟨v, ev⟩ := get_some (a := arrOf st) (i := lo + x - 1) (by omega)
    have ev' : (arrOf st)[lo + (x - 1)]? = some v := by rw [show lo + (x - 1) = lo + x - 1 by omega]; exact ev
    refine wpS_bind (wpS_ltI hO U hS eu ev ?_)
    dsimp only
    cases hlt : kl κ u v with
    | true =>
      rw [if_pos rfl]
      refine wpS_pure ⟨rfl, x, rfl, g1, g2, g3, fun _ p q hp hq => ?_⟩
      rw [ev'] at hp
      rw [eu] at hq
      cases hp; cases hq
      exact hlt
    | false =>
      rw [if_neg Bool.false_ne_true]
      refine wpS_pure ⟨rfl, rfl, by omega, by omega, g3.snoc g1 (by omega) fun p q hp hq => ?_⟩
      rw [ev'] at hp
      rw [eu] at hq
      cases hp; cases hq
      rw [hS.un U (by omega) eu ev, hlt]
      rfl
  case post =>
    rintro c st' ⟨rfl, n, rfl, g1, g2, g3, g4⟩
    dsimp only
    by_cases e1 : (n == nrem) = true
    · rw [if_pos e1]
      exact wpS_pure (h n st g1 g2 (Rl.refl _ _) g3)
    rw [if_neg e1]
    have e1' : n ≠ nrem := fun z => e1 (by rw [z]; exact beq_self_eq_true _)
    by_cases e2 : n > 1
    · rw [if_pos e2]
      obtain ⟨u, eu⟩ := get_some (a := arrOf st) (i := lo) (by omega)
      obtain ⟨v, ev⟩ := get_some (a := arrOf st) (i := lo + n - 1) (by omega)
      refine wpS_bind (wpS_ltI hO U hS eu ev ?_)
      dsimp only
      rw [g3 0 (n - 1) u v (by omega) (by omega) eu (by rw [show lo + (n - 1) = lo + n - 1 by omega]; exact ev), if_pos rfl]
      exact wpS_pure (h n st g1 g2 (Rl.refl _ _) g3)
    · rw [if_neg e2]
      have e3 : n = 1 := by omega
      subst e3
      refine wpS_bind (wpS_lift (wpAny_rule ⟨rfl, ?_⟩))
      have d2 : DscI κ (arrOf st) lo 2 := fun i j x y hij hj hx hy => by
        have e1 : i = 0 := by omega
        have e2 : j = 1 := by omega
        subst e1 e2
        exact g4 (by omega) x y hx hy
      refine wpS_bind (wpS_mono (wpS_forRange (I := fun x c st' => st = st' ∧ c = (none, x, 0) ∧ 2 ≤ x ∧ x ≤ nrem ∧ DscI κ (arrOf st) lo x)
        (Q := fun c st' => st = st' ∧ ∃ m, c = (none, m, 0) ∧ 2 ≤ m ∧ m ≤ nrem ∧ DscI κ (arrOf st) lo m) ?_ ?_ ⟨rfl, rfl, Nat.le_refl _, by omega, d2⟩) ?_)
      · rintro x c st' hx1 hx ⟨rfl, rfl, q1, q2, q3⟩
        dsimp only
        obtain ⟨u, eu⟩ := get_some (a := arrOf st) (i := lo + x) (by omega)
        obtain ⟨v, ev⟩ := get_some (a := arrOf st) (i := lo + x - 1) (by omega)
        have ev' : (arrOf st)[lo + (x - 1)]? = some v := by rw [show lo + (x - 1) = lo + x - 1 by omega]; exact ev
        refine wpS_bind (wpS_ltI hO U hS eu ev ?_)
        dsimp only
        cases hlt : kl κ u v with
        | true =>
          rw [if_pos rfl, if_neg (by omega)]
          refine wpS_pure ⟨rfl, rfl, by omega, by omega, q3.snoc (by omega) (by omega) fun p q hp hq => ?_⟩
          rw [ev'] at hp
          rw [eu] at hq
          cases hp; cases hq
          exact hlt
        | false =>
          rw [if_neg Bool.false_ne_true]
          refine wpS_bind (wpS_ltI hO U hS ev eu ?_)
          dsimp only
          have : kl κ v u = true := by rw [hS.un U (by omega) eu ev, hlt]; rfl
          rw [this, if_pos rfl]
          exact wpS_pure ⟨rfl, x, rfl, q1, q2, q3⟩
      · rintro c st' ⟨rfl, rfl, q1, q2, q3⟩
        exact ⟨rfl, _, rfl, q1, q2, q3⟩
      · rintro c st' ⟨rfl, m, rfl, q1, q2, q3⟩
        dsimp only
        rw [if_neg (by omega)]
        refine wpS_bind (wpS_reverse ?_)
        have hR : Rl lo st (setArr st (mirror (arrOf st) lo (lo + m) ((lo + m - lo) / 2))) := ⟨mirror_perm _ _ _ _, fun i hi => by
          show (mirror (arrOf st) lo (lo + m) ((lo + m - lo) / 2))[i]? = _
          rw [getElem?_mirror_all (by omega), if_neg (by omega)], rfl, rfl, rfl⟩
        have hs2 : SrtI κ (arrOf (setArr st (mirror (arrOf st) lo (lo + m) ((lo + m - lo) / 2)))) lo m := q3.rev (by omega)
        generalize setArr st (mirror (arrOf st) lo (lo + m) ((lo + m - lo) / 2)) = st2 at hR hs2
        have hS2 := hR.sb hS
        have hz2 := hS2.size
        refine wpS_bind (wpS_mono (wpS_forRange (I := fun x c st' => st2 = st' ∧ c = (none, x) ∧ m ≤ x ∧ x ≤ nrem ∧ SrtI κ (arrOf st2) lo x)
          (Q := fun c st' => st2 = st' ∧ ∃ n, c = (none, n) ∧ 1 ≤ n ∧ n ≤ nrem ∧ SrtI κ (arrOf st2) lo n) ?_ ?_ ⟨rfl, rfl, Nat.le_refl _, q2, hs2⟩) ?_)
        · rintro x c st' hx1 hx ⟨rfl, rfl, r1, r2, r3⟩
          dsimp only
          obtain ⟨u, eu⟩ := get_some (a := arrOf st2) (i := lo + x) (by omega)
          obtain ⟨v, ev⟩ := get_some (a := arrOf st2) (i := lo + x - 1) (by omega)
          have ev' : (arrOf st2)[lo + (x - 1)]? = some v := by rw [show lo + (x - 1) = lo + x - 1 by omega]; exact ev
          refine wpS_bind (wpS_ltI hO U hS2 eu ev ?_)
          dsimp only
          cases hlt : kl κ u v with
          | true =>
            rw [if_pos rfl]
            exact wpS_pure ⟨rfl, x, rfl, by omega, by omega, r3⟩
          | false =>
            rw [if_neg Bool.false_ne_true]
            refine wpS_pure ⟨rfl, rfl, by omega, by omega, r3.snoc (by omega) (by omega) fun p q hp hq => ?_⟩
            rw [ev'] at hp
            rw [eu] at hq
            cases hp; cases hq
            rw [hS2.un U (by omega) eu ev, hlt]
            rfl
        · rintro c st' ⟨rfl, rfl, r1, r2, r3⟩
          exact ⟨rfl, _, rfl, by omega, r2, r3⟩
        · rintro c st' ⟨rfl, n, rfl, r1, r2, r3⟩
          exact wpS_pure (h n st2 r1 r2 hR r3)
theorem wpS_binarySortI (hO : κ.OneLt) (U : Unl κ a₀) {st : SortSt} {lo n ok : Nat} {Q : Bool → SortSt → Prop} (hS : Sb a₀ st) (hok : ok ≤ n) (h1 : 1 ≤ n) (hn : lo + n ≤ a₀.size) (hs : SrtI κ (arrOf st) lo ok)
    (h : ∀ st', Rl lo st st' → SrtI κ (arrOf st') lo n → Q true st') : wpS (model prog w) A E s (binarySort' lo n ok) Q st := by
  refine wpS_bind (wpS_mono (wpS_forRange (I := fun k c st' => c = (none, ()) ∧ Rl lo st st' ∧ k ≤ n ∧ SrtI κ (arrOf st') lo k) (Q := fun c st' => c = (none, ()) ∧ Rl lo st st' ∧ SrtI κ (arrOf st') lo n) ?step ?fin ?init) ?post)
  case post =>
    rintro c st' ⟨rfl, hR, hs'⟩
    exact wpS_pure (h st' hR hs')
  case init =>
    refine ⟨rfl, Rl.refl _ _, by omega, fun i j x y hij hj hx hy => ?_⟩
    by_cases e : ok = 0
    · omega
    · exact hs i j x y hij (by omega) hx hy
  case fin =>
    rintro c st' ⟨hc, hR, hk, hs'⟩
    have : max (max ok 1) n = n := by omega
    rw [this] at hs'
    exact ⟨hc, hR, hs'⟩
  case step =>
    rintro k c st' hk1 hk ⟨rfl, hR, _, hs'⟩
    dsimp only
    have hS' := hR.sb hS
    have hz := hS'.size
    obtain ⟨u, eu⟩ := get_some (a := arrOf st') (i := lo + k) (by omega)
    refine wpS_bind (wpS_mono (wpS_forRange (I := fun x c st'' => st' = st'' ∧ ∃ l r, c = (none, l, r) ∧ l ≤ r ∧ r ≤ k ∧ r - l ≤ k - x ∧ (∀ i, i < l → ∀ v, (arrOf st')[lo + i]? = some v → kl κ v u = true) ∧ (∀ i, r ≤ i → i < k → ∀ v, (arrOf st')[lo + i]? = some v → kl κ u v = true))
      (Q := fun c st'' => st' = st'' ∧ ∃ l, c = (none, l, l) ∧ l ≤ k ∧ (∀ i, i < l → ∀ v, (arrOf st')[lo + i]? = some v → kl κ v u = true) ∧ (∀ i, l ≤ i → i < k → ∀ v, (arrOf st')[lo + i]? = some v → kl κ u v = true)) ?_ ?_ ⟨rfl, 0, k, rfl, by omega, by omega, by omega, fun i hi => by omega, fun i h1 h2 => by omega⟩) ?_)
    · rintro x c st'' _ hx ⟨rfl, l, r, rfl, g1, g2, g3, g4, g5⟩
      dsimp only
      by_cases hge : l ≥ r
      · rw [if_pos hge]
        have e : l = r := by omega
        subst e
        exact wpS_pure ⟨rfl, l, rfl, g2, g4, g5⟩
      rw [if_neg hge]
      obtain ⟨v, ev⟩ := get_some (a := arrOf st') (i := lo + (l + r) / 2) (by omega)
      refine wpS_bind (wpS_ltI hO U hS' eu ev ?_)
      dsimp only
      cases hlt : kl κ u v with
      | true =>
        rw [if_pos rfl]
        refine wpS_pure ⟨rfl, l, (l + r) / 2, rfl, by omega, by omega, by omega, g4, fun i i1 i2 z hz' => ?_⟩
        by_cases e : i = (l + r) / 2
        · subst e
          rw [ev] at hz'
          cases hz'
          exact hlt
        · exact kl_trans hlt (hs' _ _ _ _ (by omega) i2 ev hz')
      | false =>
        rw [if_neg Bool.false_ne_true]
        have hvu : kl κ v u = true := by rw [hS'.un U (by omega) eu ev, hlt]; rfl
        refine wpS_pure ⟨rfl, (l + r) / 2 + 1, r, rfl, by omega, by omega, by omega, fun i i1 z hz' => ?_, g5⟩
        by_cases e : i = (l + r) / 2
        · subst e
          rw [ev] at hz'
          cases hz'
          exact hvu
        · exact kl_trans (hs' _ _ _ _ (by omega) (by omega) hz' ev) hvu
    · rintro c st'' ⟨rfl, l, r, rfl, g1, g2, g3, g4, g5⟩
      have e : l = r := by omega
      subst e
      exact ⟨rfl, l, rfl, g2, g4, g5⟩
    · rintro c st'' ⟨rfl, l, rfl, g2, g4, g5⟩
      dsimp only
      show wpS _ _ _ _ (do moveDown' (lo + k) (lo + l); pure (ForInStep.yield (none, ()))) _ _
      rw [moveDown'_eq]
      have ed : lo + k - (lo + l) = k - l := by omega
      rw [ed]
      have hb : ∀ i, (bubble (arrOf st') (lo + k) (k - l))[i]? = if i = lo + l then (arrOf st')[lo + k]? else if lo + l < i ∧ i ≤ lo + k then (arrOf st')[i - 1]? else (arrOf st')[i]? := fun i => by
        rw [getElem?_bubble (by omega) (k - l) (by omega), show lo + k - (k - l) = lo + l by omega]
      refine wpS_bind (wpS_modify (wpS_pure ⟨rfl, hR.trans ⟨bubble_perm _ _ _, fun i hi => ?_, rfl, rfl, rfl⟩, by omega, fun i j x y hij hj hx hy => ?_⟩))
      · show (bubble (arrOf st') (lo + k) (k - l))[i]? = _
        rw [hb, if_neg (by omega), if_neg (by omega)]
      · have hx : (bubble (arrOf st') (lo + k) (k - l))[lo + i]? = some x := hx
        have hy : (bubble (arrOf st') (lo + k) (k - l))[lo + j]? = some y := hy
        rw [hb] at hx hy
        by_cases e1 : i = l
        · rw [if_pos (by omega)] at hx
          rw [if_neg (by omega), if_pos ⟨by omega, by omega⟩, show lo + j - 1 = lo + (j - 1) by omega] at hy
          rw [eu] at hx
          cases hx
          exact g5 (j - 1) (by omega) (by omega) y hy
        · rw [if_neg (by omega)] at hx
          by_cases e2 : j = l
          · rw [if_pos (by omega)] at hy
            rw [if_neg (by omega)] at hx
            rw [eu] at hy
            cases hy
            exact g4 i (by omega) x hx
          · rw [if_neg (by omega)] at hy
            by_cases e3 : lo + l < lo + i ∧ lo + i ≤ lo + k
            · rw [if_pos e3, show lo + i - 1 = lo + (i - 1) by omega] at hx
              rw [if_pos ⟨by omega, by omega⟩, show lo + j - 1 = lo + (j - 1) by omega] at hy
              exact hs' _ _ _ _ (by omega) (by omega) hx hy
            · rw [if_neg e3] at hx
              by_cases e4 : lo + l < lo + j ∧ lo + j ≤ lo + k
              · rw [if_pos e4, show lo + j - 1 = lo + (j - 1) by omega] at hy
                exact hs' _ _ _ _ (by omega) (by omega) hx hy
              · rw [if_neg e4] at hy
                exact hs' _ _ _ _ hij (by omega) hx hy
end
end L2
namespace L2
open PySem PySem.Spec PyProof.Rows
section
variable {κ : PyProof.Rows.KeyKind} {a₀ : Array Keyed}
def RunsOK (κ : PyProof.Rows.KeyKind) : List (Nat × Nat × Nat) → List (List Keyed) → Nat → Prop
  | [], [], _ => True
  | e :: p, seg :: segs, start => e.1 = start ∧ e.2.1 = seg.length ∧ 1 ≤ seg.length ∧ seg.Pairwise (fun x y => kl κ x y = true) ∧ RunsOK κ p segs (start + seg.length)
  | _, _, _ => False
theorem RunsOK.len : ∀ {p : List (Nat × Nat × Nat)} {segs : List (List Keyed)} {start : Nat}, RunsOK κ p segs start → p.length = segs.length
  | [], [], _, _ => rfl
  | [], _ :: _, _, h => h.elim
  | _ :: _, [], _, h => h.elim
  | _ :: p, _ :: segs, _, h => by rw [List.length_cons, List.length_cons, RunsOK.len h.2.2.2.2]
theorem RunsOK.app : ∀ {s1 : List (List Keyed)} {p1 p2 : List (Nat × Nat × Nat)} {s2 : List (List Keyed)} {start : Nat}, p1.length = s1.length → (RunsOK κ (p1 ++ p2) (s1 ++ s2) start ↔ RunsOK κ p1 s1 start ∧ RunsOK κ p2 s2 (start + s1.flatten.length))
  | [], [], p2, s2, start, _ => by
    show RunsOK κ p2 s2 start ↔ True ∧ RunsOK κ p2 s2 (start + 0)
    rw [Nat.add_zero]
    exact ⟨fun z => ⟨trivial, z⟩, fun z => z.2⟩
  | [], _ :: _, _, _, _, h => nomatch h
  | _ :: _, [], _, _, _, h => nomatch h
  | seg :: s1, e :: p1, p2, s2, start, h => by
    have ih := RunsOK.app (s1 := s1) (p1 := p1) (p2 := p2) (s2 := s2) (start := start + seg.length) (by simpa using h)
    show (e.1 = start ∧ e.2.1 = seg.length ∧ 1 ≤ seg.length ∧ seg.Pairwise _ ∧ RunsOK κ (p1 ++ p2) (s1 ++ s2) (start + seg.length)) ↔ (e.1 = start ∧ e.2.1 = seg.length ∧ 1 ≤ seg.length ∧ seg.Pairwise _ ∧ RunsOK κ p1 s1 (start + seg.length)) ∧ _
    rw [ih, List.flatten_cons, List.length_append, Nat.add_assoc]
    constructor
    · rintro ⟨h1, h2, h3, h4, h5, h6⟩
      exact ⟨⟨h1, h2, h3, h4, h5⟩, h6⟩
    · rintro ⟨⟨h1, h2, h3, h4, h5⟩, h6⟩
      exact ⟨h1, h2, h3, h4, h5, h6⟩
theorem RunsOK.re {p p' : List (Nat × Nat × Nat)} {segs : List (List Keyed)} {start : Nat} (hp : p'.map (fun e => (e.1, e.2.1)) = p.map fun e => (e.1, e.2.1)) (h : RunsOK κ p segs start) : RunsOK κ p' segs start := by
  induction p generalizing p' segs start with
  | nil =>
    rw [List.map_nil, List.map_eq_nil_iff] at hp
    rw [hp]
    exact h
  | cons e p ih =>
    cases p' with
    | nil => cases hp
    | cons e' p' =>
      rw [List.map_cons, List.map_cons] at hp
      injection hp with h1 h2
      cases segs with
      | nil => exact h.elim
      | cons seg segs =>
        obtain ⟨g1, g2, g3, g4, g5⟩ := h
        have e1 : e'.1 = e.1 := congrArg (·.1) h1
        have e2 : e'.2.1 = e.2.1 := congrArg (·.2) h1
        exact ⟨e1.trans g1, e2.trans g2, g3, g4, ih h2 g5⟩
structure Rs (κ : PyProof.Rows.KeyKind) (a₀ : Array Keyed) (st : SortSt) (segs : List (List Keyed)) (rest : List Keyed) : Prop where
  sb : Sb a₀ st
  arr : (arrOf st).toList = segs.flatten ++ rest
  runs : RunsOK κ (pendingOf st).toList segs 0
theorem put_back (off : Nat) : ∀ (R : List Keyed) (n : Nat) (arr : Array Keyed) (P M S : List Keyed), arr.toList = P ++ (M ++ S) → off + n = P.length → R.length = M.length →
    ((R.zipIdx n).foldl (fun a x => a.setIfInBounds (off + x.snd) x.fst) arr).toList = P ++ (R ++ S)
  | [], n, arr, P, M, S, h, _, hl => by
    have : M = [] := List.length_eq_zero_iff.mp (by simpa using hl.symm)
    subst this
    exact h
  | r :: R, n, arr, P, [], S, _, _, hl => nomatch hl
  | r :: R, n, arr, P, m :: M, S, h, hn, hl => by
    rw [List.zipIdx_cons, List.foldl_cons]
    have h1 : (arr.setIfInBounds (off + n) r).toList = (P ++ [r]) ++ (M ++ S) := by
      rw [Array.toList_setIfInBounds, h, hn, List.cons_append, List.set_append_right _ _ (Nat.le_refl _), Nat.sub_self]
      simp
    have := put_back off R (n + 1) (arr.setIfInBounds (off + n) r) (P ++ [r]) M S h1 (by rw [List.length_append, ← hn]; rfl) (by simpa using hl)
    rw [this]
    simp
theorem mid_at {arr : Array Keyed} {P M S : List Keyed} (h : arr.toList = P ++ (M ++ S)) {i : Nat} (hi : i < M.length) : arr[P.length + i]? = M[i]? := by
  have : arr.toList[P.length + i]? = M[i]? := by
    rw [h, List.getElem?_append_right (by omega), show P.length + i - P.length = i by omega, List.getElem?_append_left hi]
  simpa using this
theorem mid_ext {arr : Array Keyed} {P M S : List Keyed} (h : arr.toList = P ++ (M ++ S)) {i j : Nat} (hi : i = P.length) (hj : j = i + M.length) : (arr.extract i j).toList = M := by
  rw [ext_list, h, hi, List.drop_left, hj, show i + M.length - P.length = M.length by omega, List.take_left]
end
section
variable {prog : Program} {w : World} {A : Around} {E : Value → Shared → Prop} {s : Shared} {κ : PyProof.Rows.KeyKind} {a₀ : Array Keyed}
theorem wpS_setS {σ : Type} {M : Model} {st st' : σ} {Q : PUnit → σ → Prop} (h : Q ⟨⟩ st') : wpS M A E s (set st' : StateT σ Sem PUnit) Q st := by
  unfold wpS
  rw [StateT.run_set]
  exact wpAny_pure ⟨rfl, h⟩
theorem wpS_ite {σ α : Type} {M : Model} {c : Prop} [Decidable c] {t e : StateT σ Sem α} {Q : α → σ → Prop} {st : σ} (h1 : c → wpS M A E s t Q st) (h2 : ¬ c → wpS M A E s e Q st) : wpS M A E s (if c then t else e) Q st := by
  by_cases h : c
  · rw [if_pos h]; exact h1 h
  · rw [if_neg h]; exact h2 h
theorem merge_two (hO : κ.OneLt) (U : Unl κ a₀) {st : SortSt} {Q : Bool → SortSt → Prop} {P As Bs S : List Keyed} {i pw : Nat} {e2 : Nat} (hS : Sb a₀ st) (ha : (arrOf st).toList = P ++ (As ++ (Bs ++ S))) (sA : As.Pairwise fun x y => kl κ x y = true) (sB : Bs.Pairwise fun x y => kl κ x y = true) (h1 : 1 ≤ As.length) (h2 : 1 ≤ Bs.length)
    (hp1 : (pendingOf st)[i]? = some (P.length, As.length, pw)) (hp2 : (pendingOf st)[i + 1]? = some (P.length + As.length, Bs.length, e2))
    (h : ∀ st' C, Sb a₀ st' → (arrOf st').toList = P ++ (C ++ S) → C.Pairwise (fun x y => kl κ x y = true) → C.length = As.length + Bs.length → pendingOf st' = ((pendingOf st).setIfInBounds i (P.length, As.length + Bs.length, pw)).eraseIdxIfInBounds (i + 1) → Q true st') :
    wpS (model prog w) A E s (mergeAt' i) Q st := by
  have hb' : (arrOf st).toList = (P ++ As) ++ (Bs ++ S) := by rw [ha, List.append_assoc]
  have atA : ∀ {j : Nat}, j < As.length → (arrOf st)[P.length + j]? = As[j]? := fun hj => mid_at ha hj
  have atB : ∀ {j : Nat}, j < Bs.length → (arrOf st)[P.length + As.length + j]? = Bs[j]? := fun {j} hj => by
    have := mid_at hb' hj
    rw [List.length_append] at this
    exact this
  have hasA : ∀ x ∈ As, HasK κ x := fun x hx => U.hk x ((Array.perm_iff_toList_perm.mp hS.perm).mem_iff.mp (by rw [ha]; exact List.mem_append_right _ (List.mem_append_left _ hx)))
  have hasB : ∀ x ∈ Bs, HasK κ x := fun x hx => U.hk x ((Array.perm_iff_toList_perm.mp hS.perm).mem_iff.mp (by rw [ha]; exact List.mem_append_right _ (List.mem_append_right _ (List.mem_append_left _ hx))))
  have xo : ∀ x ∈ As, ∀ y ∈ Bs, kl κ y x = !kl κ x y := fun x hx y hy => by
    obtain ⟨j, hj, ex⟩ := List.getElem_of_mem hx
    obtain ⟨k, hk, ey⟩ := List.getElem_of_mem hy
    exact hS.un U (i := P.length + j) (j := P.length + As.length + k) (by omega) (by rw [atA hj, List.getElem?_eq_getElem hj, ex]) (by rw [atB hk, List.getElem?_eq_getElem hk, ey])
  obtain ⟨y0, hy0⟩ : ∃ y0, Bs[0]? = some y0 := ⟨_, List.getElem?_eq_getElem (by omega)⟩
  have my0 : y0 ∈ Bs := List.mem_of_getElem? hy0
  obtain ⟨xl, hxl⟩ : ∃ xl, As[As.length - 1]? = some xl := ⟨_, List.getElem?_eq_getElem (by omega)⟩
  have mxl : xl ∈ As := List.mem_of_getElem? hxl
  have lAt : ∀ {l : List Keyed}, l.Pairwise (fun x y => kl κ x y = true) → ∀ {i j : Nat} {x y : Keyed}, i < j → l[i]? = some x → l[j]? = some y → kl κ x y = true := fun {l} sl {i j x y} hij hx hy => by
    rw [List.pairwise_iff_getElem] at sl
    obtain ⟨g1, e1⟩ := List.getElem?_eq_some_iff.mp hx
    obtain ⟨g2, e2⟩ := List.getElem?_eq_some_iff.mp hy
    rw [← e1, ← e2]
    exact sl i j g1 g2 hij
  refine wpS_bind (wpS_get ?_)
  rw [hp1, hp2]
  dsimp only
  refine wpS_bind (wpS_setS ?_)
  refine wpS_bind (wpS_elem (p := y0) (by rw [← hy0, ← atB (j := 0) (by omega), Nat.add_zero]) ?_)
  refine wpS_bind (wpS_gallop hO hS.kind (hasB y0 my0) (by omega) (fun j => match As[j]? with | some x => kl κ x y0 | none => false) (fun j hj => ?_) (fun j k hjk hk hb => ?_) fun k k1 k2 k3 => ?_)
  · refine ⟨As[j], by rw [atA hj, List.getElem?_eq_getElem hj], hasA _ (List.getElem_mem hj), by rw [List.getElem?_eq_getElem hj], ?_⟩
    rw [List.getElem?_eq_getElem hj]
    exact xo _ (List.getElem_mem hj) _ my0
  · have hj : j < As.length := by omega
    rw [List.getElem?_eq_getElem hk] at hb
    rw [List.getElem?_eq_getElem hj]
    by_cases e : j = k
    · subst e; exact hb
    · exact kl_trans (lAt sA (by omega) (List.getElem?_eq_getElem hj) (List.getElem?_eq_getElem hk)) hb
  dsimp only
  have hB0 : ∀ y ∈ Bs, y = y0 ∨ kl κ y0 y = true := fun y hy => by
    obtain ⟨j, hj, ey⟩ := List.getElem_of_mem hy
    by_cases e : j = 0
    · subst e
      rw [List.getElem?_eq_getElem hj, ey] at hy0
      exact .inl (Option.some.inj hy0)
    · exact .inr (lAt sB (by omega : 0 < j) hy0 (by rw [List.getElem?_eq_getElem hj, ey]))
  have hA1 : ∀ x ∈ As.take k, ∀ y ∈ Bs, kl κ x y = true := fun x hx y hy => by
    obtain ⟨j, hj, ex⟩ := List.getElem_of_mem hx
    rw [List.length_take] at hj
    have := k2 j (by omega)
    rw [List.getElem?_eq_getElem (by omega)] at this
    rw [List.getElem_take] at ex
    rw [← ex]
    rcases hB0 y hy with rfl | z
    · exact this
    · exact kl_trans this z
  refine wpS_ite (fun hk0 => ?_) fun hk0 => ?_
  · have hk0 : As.length - k = 0 := eq_of_beq hk0
    have ek : As.take k = As := List.take_of_length_le (by omega)
    rw [ek] at hA1
    refine wpS_pure (h _ (As ++ Bs) ⟨hS.perm, hS.kind, hS.fail⟩ ?_ (List.pairwise_append.mpr ⟨sA, sB, hA1⟩) List.length_append rfl)
    rw [List.append_assoc]
    exact ha
  have hk0' : As.length - k ≠ 0 := fun z => hk0 (by rw [z]; rfl)
  have hkl : k < As.length := by omega
  have hxk : kl κ y0 As[k] = true := by
    have := k3 k (Nat.le_refl _) hkl
    rw [List.getElem?_eq_getElem hkl] at this
    rw [xo _ (List.getElem_mem hkl) _ my0, show kl κ As[k] y0 = false from this]
    rfl
  have hX : ∀ x ∈ As.drop k, kl κ y0 x = true := fun x hx => by
    obtain ⟨j, hj, ex⟩ := List.getElem_of_mem hx
    rw [List.length_drop] at hj
    rw [List.getElem_drop] at ex
    by_cases e : j = 0
    · subst e
      rw [← ex]
      exact hxk
    · rw [← ex]
      exact kl_trans hxk (lAt sA (by omega : k < k + j) (List.getElem?_eq_getElem hkl) (List.getElem?_eq_getElem (by omega)))
  have hlast : ∀ x ∈ As, x = xl ∨ kl κ x xl = true := fun x hx => by
    obtain ⟨j, hj, ex⟩ := List.getElem_of_mem hx
    by_cases e : j = As.length - 1
    · subst e
      rw [List.getElem?_eq_getElem hj, ex] at hxl
      exact .inl (Option.some.inj hxl)
    · exact .inr (lAt sA (by omega : j < As.length - 1) (by rw [List.getElem?_eq_getElem hj, ex]) hxl)
  refine wpS_bind (wpS_elem (p := xl) (by rw [← hxl, ← atA (j := As.length - 1) (by omega)]; congr 1; omega) ?_)
  refine wpS_bind (wpS_gallop hO hS.kind (hasA xl mxl) (by omega) (fun j => match Bs[j]? with | some y => kl κ y xl | none => false) (fun j hj => ?_) (fun j k' hjk hk' hb => ?_) fun m m1 m2 m3 => ?_)
  · refine ⟨Bs[j], by rw [atB hj, List.getElem?_eq_getElem hj], hasB _ (List.getElem_mem hj), by rw [List.getElem?_eq_getElem hj], ?_⟩
    rw [List.getElem?_eq_getElem hj]
    show kl κ xl Bs[j] = !kl κ Bs[j] xl
    rw [xo _ mxl _ (List.getElem_mem hj), Bool.not_not]
  · have hj : j < Bs.length := by omega
    rw [List.getElem?_eq_getElem hk'] at hb
    rw [List.getElem?_eq_getElem hj]
    by_cases e : j = k'
    · subst e; exact hb
    · exact kl_trans (lAt sB (by omega) (List.getElem?_eq_getElem hj) (List.getElem?_eq_getElem hk')) hb
  dsimp only
  have hxl0 : kl κ y0 xl = true := by
    rcases hlast As[k] (List.getElem_mem hkl) with e | z
    · rw [← e]; exact hxk
    · exact kl_trans hxk z
  have hm0 : m ≠ 0 := fun z => by
    have := m3 0 (by omega) (by omega)
    rw [hy0] at this
    rw [show kl κ y0 xl = false from this] at hxl0
    cases hxl0
  refine wpS_ite (fun z => absurd (eq_of_beq z) hm0) fun _ => ?_
  have hY : ∀ y ∈ Bs.take m, kl κ y xl = true := fun y hy => by
    obtain ⟨j, hj, ey⟩ := List.getElem_of_mem hy
    rw [List.length_take] at hj
    rw [List.getElem_take] at ey
    have := m2 j (by omega)
    rw [List.getElem?_eq_getElem (by omega)] at this
    rw [← ey]
    exact this
  have hB2 : ∀ x ∈ As, ∀ y ∈ Bs.drop m, kl κ x y = true := fun x hx y hy => by
    obtain ⟨j, hj, ey⟩ := List.getElem_of_mem hy
    rw [List.length_drop] at hj
    rw [List.getElem_drop] at ey
    have := m3 (m + j) (by omega) (by omega)
    rw [List.getElem?_eq_getElem (by omega), ey] at this
    have hyl : kl κ xl y = true := by
      have h3 := xo xl mxl y (List.mem_of_mem_drop hy)
      rw [show kl κ y xl = false from this] at h3
      cases e : kl κ xl y with
      | true => rfl
      | false => rw [e] at h3; cases h3
    rcases hlast x hx with rfl | z
    · exact hyl
    · exact kl_trans z hyl
  have eA : As = As.take k ++ As.drop k := (List.take_append_drop k As).symm
  have eB : Bs = Bs.take m ++ Bs.drop m := (List.take_append_drop m Bs).symm
  have lX : (As.drop k).length = As.length - k := List.length_drop
  have lY : (Bs.take m).length = m := by rw [List.length_take]; omega
  have lA1 : (As.take k).length = k := by rw [List.length_take]; omega
  have hfull : (arrOf st).toList = (P ++ As.take k) ++ ((As.drop k ++ Bs.take m) ++ (Bs.drop m ++ S)) := by
    rw [ha]
    conv => lhs; rw [eA, eB]
    simp only [List.append_assoc]
  have exX : ((arrOf st).extract (P.length + k) (P.length + As.length)).toList = As.drop k := by
    refine mid_ext (P := P ++ As.take k) (S := Bs.take m ++ (Bs.drop m ++ S)) (by rw [hfull]; simp only [List.append_assoc]) (by rw [List.length_append, lA1]) (by rw [lX]; omega)
  have exY : ((arrOf st).extract (P.length + As.length) (P.length + As.length + m)).toList = Bs.take m := by
    refine mid_ext (P := P ++ (As.take k ++ As.drop k)) (S := Bs.drop m ++ S) (by rw [hfull]; simp only [List.append_assoc]) (by rw [List.length_append, ← eA]) (by rw [lY])
  have Mh : MH κ (As.drop k) (Bs.take m) := ⟨fun x hx => hasA x (List.mem_of_mem_drop hx), fun y hy => hasB y (List.mem_of_mem_take hy), sA.sublist (List.drop_sublist _ _), sB.sublist (List.take_sublist _ _), fun x hx y hy => xo x (List.mem_of_mem_drop hx) y (List.mem_of_mem_take hy)⟩
  have fin : ∀ (r : Array Keyed) (st2 : SortSt), SameSt (SortSt.mk' (kindOf st) (arrOf st) (((pendingOf st).setIfInBounds i (P.length, As.length + Bs.length, pw)).eraseIdxIfInBounds (i + 1)) (gallopOf st) (failedOf st)) st2 → Rz κ (As.drop k) (Bs.take m) r →
      Q true (SortSt.mk' (kindOf st2) (r.toList.zipIdx.foldl (fun a x => a.setIfInBounds (P.length + k + x.snd) x.fst) (arrOf st2)) (pendingOf st2) (gallopOf st2) (failedOf st2)) := fun r st2 ss hr => by
    have hrl : r.toList.length = (As.drop k ++ Bs.take m).length := hr.2.length_eq
    have hput := put_back (P.length + k) r.toList 0 (arrOf st2) (P ++ As.take k) (As.drop k ++ Bs.take m) (Bs.drop m ++ S) (by rw [ss.arr]; exact hfull) (by rw [List.length_append, lA1, Nat.add_zero]) hrl
    have hmemR : ∀ z ∈ r.toList, z ∈ As.drop k ∨ z ∈ Bs.take m := fun z hz => List.mem_append.mp (hr.2.mem_iff.mp hz)
    refine h _ (As.take k ++ (r.toList ++ Bs.drop m)) ⟨?_, ss.kind.trans hS.kind, ss.fail.trans hS.fail⟩ ?_ ?_ ?_ ss.pend
    · refine Array.Perm.trans (Array.perm_iff_toList_perm.mpr ?_) hS.perm
      show (r.toList.zipIdx.foldl (fun a x => a.setIfInBounds (P.length + k + x.snd) x.fst) (arrOf st2)).toList.Perm _
      rw [hput, hfull]
      exact List.Perm.append_left _ (List.Perm.append_right _ hr.2)
    · show (r.toList.zipIdx.foldl (fun a x => a.setIfInBounds (P.length + k + x.snd) x.fst) (arrOf st2)).toList = _
      rw [hput]
      simp only [List.append_assoc]
    · refine List.pairwise_append.mpr ⟨sA.sublist (List.take_sublist _ _), List.pairwise_append.mpr ⟨hr.1, sB.sublist (List.drop_sublist _ _), fun z hz y hy => ?_⟩, fun x hx z hz => ?_⟩
      · rcases hmemR z hz with g | g
        · exact hB2 z (List.mem_of_mem_drop g) y hy
        · have := sB
          rw [eB, List.pairwise_append] at this
          exact this.2.2 z g y hy
      · rcases List.mem_append.mp hz with g | g
        · rcases hmemR z g with q | q
          · have := sA
            rw [eA, List.pairwise_append] at this
            exact this.2.2 x hx z q
          · exact hA1 x hx z (List.mem_of_mem_take q)
        · exact hA1 x hx z (List.mem_of_mem_drop g)
    · rw [List.length_append, List.length_append, hrl, List.length_append, lA1, lX, lY, List.length_drop]
      omega
  have y0t : (Bs.take m)[0]? = some y0 := by rw [List.getElem?_take, if_pos (by omega)]; exact hy0
  have szX : ((arrOf st).extract (P.length + k) (P.length + As.length)).size = As.length - k := by rw [← Array.length_toList, exX, lX]
  have szY : ((arrOf st).extract (P.length + As.length) (P.length + As.length + m)).size = m := by rw [← Array.length_toList, exY, lY]
  have gX : ∀ {j : Nat} {x : Keyed}, ((arrOf st).extract (P.length + k) (P.length + As.length))[j]? = some x → (As.drop k)[j]? = some x := fun {j x} hx => by rw [← exX, Array.getElem?_toList]; exact hx
  have gY : ∀ {j : Nat} {y : Keyed}, ((arrOf st).extract (P.length + As.length) (P.length + As.length + m))[j]? = some y → (Bs.take m)[j]? = some y := fun {j y} hy => by rw [← exY, Array.getElem?_toList]; exact hy
  have lastX : ∀ x, ((arrOf st).extract (P.length + k) (P.length + As.length))[((arrOf st).extract (P.length + k) (P.length + As.length)).size - 1]? = some x → x = xl := fun x hx => by
    have := gX hx
    rw [szX, List.getElem?_drop, show k + (As.length - k - 1) = As.length - 1 by omega, hxl] at this
    exact (Option.some.inj this).symm
  refine wpS_ite (fun _ => ?_) fun _ => ?_
  · refine wpS_bind (wpS_mergeLo hO (by rw [exX, exY]; exact Mh) hS.kind (by rw [szX]; omega) (by rw [szY]; omega) (fun y hy x hx => ?_) (fun x hx y hy => ?_) fun r st2 ss hr => ?_)
    · have e := gY hy
      rw [y0t] at e
      cases e
      exact hX x (List.mem_of_getElem? (gX hx))
    · rw [lastX x hx]
      rw [exY] at hy
      exact hY y hy
    · rw [exX, exY] at hr
      refine wpS_bind (wpS_modify (wpS_bind (wpS_get (wpS_pure ?_))))
      have := fin r st2 ss hr
      have hf : (failedOf st2).isNone = true := by rw [ss.fail.trans hS.fail]; rfl
      show Q (failedOf st2).isNone _
      rw [hf]
      exact this
  · refine wpS_bind (wpS_mergeHi hO (by rw [exX, exY]; exact Mh) hS.kind (by rw [szX]; omega) (by rw [szY]; omega) (fun y hy x hx => ?_) (fun x hx y hy => ?_) fun r st2 ss hr => ?_)
    · have e := gY hy
      rw [y0t] at e
      cases e
      rw [exX] at hx
      exact hX x hx
    · rw [lastX x hx]
      exact hY y (List.mem_of_getElem? (gY hy))
    · rw [exX, exY] at hr
      refine wpS_bind (wpS_modify (wpS_bind (wpS_get (wpS_pure ?_))))
      have := fin r st2 ss hr
      have hf : (failedOf st2).isNone = true := by rw [ss.fail.trans hS.fail]; rfl
      show Q (failedOf st2).isNone _
      rw [hf]
      exact this
end
end L2
namespace L2
open PySem PySem.Spec PyProof.Rows
section
variable {prog : Program} {w : World} {A : Around} {E : Value → Shared → Prop} {s : Shared} {κ : PyProof.Rows.KeyKind} {a₀ : Array Keyed}
theorem cut2 {α : Type} {l : List α} {i : Nat} (h : i + 1 < l.length) : ∃ x y r, l = l.take i ++ x :: y :: r ∧ l.drop i = x :: y :: r := by
  refine ⟨l[i], l[i + 1], l.drop (i + 2), ?_, ?_⟩
  · conv => lhs; rw [← List.take_append_drop i l, List.drop_eq_getElem_cons (by omega), List.drop_eq_getElem_cons h]
  · rw [List.drop_eq_getElem_cons (by omega), List.drop_eq_getElem_cons h]
theorem wpS_mergeAtI (hO : κ.OneLt) (U : Unl κ a₀) {st : SortSt} {Q : Bool → SortSt → Prop} {segs : List (List Keyed)} {rest : List Keyed} {i : Nat} (R : Rs κ a₀ st segs rest) (hi : i + 1 < segs.length)
    (h : ∀ st' segs', Rs κ a₀ st' segs' rest → segs'.length + 1 = segs.length → segs'.flatten.length = segs.flatten.length → Q true st') : wpS (model prog w) A E s (mergeAt' i) Q st := by
  have hpl := R.runs.len
  obtain ⟨As, Bs, post, es, _⟩ := cut2 hi
  obtain ⟨e1, e2, q, ep, _⟩ := cut2 (l := (pendingOf st).toList) (i := i) (by omega)
  have ltake : ((pendingOf st).toList.take i).length = (segs.take i).length := by rw [List.length_take, List.length_take, hpl]
  have l2 : ((pendingOf st).toList.take i).length = i := by rw [List.length_take]; omega
  have hr := R.runs
  rw [ep, es, RunsOK.app ltake] at hr
  obtain ⟨r1, c1, c2, c3, c4, c5, c6, c7, c8, c9⟩ := hr
  rw [Nat.zero_add] at c1 c5 c9
  have harr := R.arr
  rw [es, List.flatten_append, List.flatten_cons, List.flatten_cons] at harr
  simp only [List.append_assoc] at harr
  have hp1 : (pendingOf st)[i]? = some e1 := by
    have : (pendingOf st).toList[i]? = some e1 := by rw [ep, List.getElem?_append_right (by omega), l2, Nat.sub_self]; rfl
    simpa using this
  have hp2 : (pendingOf st)[i + 1]? = some e2 := by
    have : (pendingOf st).toList[i + 1]? = some e2 := by rw [ep, List.getElem?_append_right (by omega), l2, show i + 1 - i = 1 by omega]; rfl
    simpa using this
  have he1 : e1 = ((segs.take i).flatten.length, As.length, e1.2.2) := by rw [← c1, ← c2]
  have he2 : e2 = ((segs.take i).flatten.length + As.length, Bs.length, e2.2.2) := by rw [← c5, ← c6]
  rw [he1] at hp1
  rw [he2] at hp2
  refine merge_two hO U R.sb harr c4 c8 c3 c7 hp1 hp2 fun st' C hS' ha' sC lC hp' => h st' (segs.take i ++ C :: post) ⟨hS', ?_, ?_⟩ ?_ ?_
  · rw [ha', List.flatten_append, List.flatten_cons]
    simp only [List.append_assoc]
  · rw [hp', Array.toList_eraseIdxIfInBounds, Array.toList_setIfInBounds, ep, List.set_append_right _ _ (by omega), l2, Nat.sub_self, List.eraseIdx_append_of_length_le (by omega), l2, show i + 1 - i = 1 by omega]
    show RunsOK κ (_ ++ ((segs.take i).flatten.length, As.length + Bs.length, e1.2.2) :: q) _ 0
    rw [RunsOK.app ltake, Nat.zero_add]
    refine ⟨r1, rfl, lC.symm, by omega, sC, ?_⟩
    rw [lC, ← Nat.add_assoc]
    exact c9
  · have := congrArg List.length es
    rw [List.length_append, List.length_cons, List.length_cons] at this
    rw [List.length_append, List.length_cons]
    omega
  · have : segs.flatten.length = _ := congrArg (fun z => z.flatten.length) es
    rw [List.flatten_append, List.flatten_cons, List.flatten_cons, List.length_append, List.length_append, List.length_append] at this
    rw [List.flatten_append, List.flatten_cons, List.length_append, List.length_append, lC]
    omega
theorem Rs.move {st st' : SortSt} {segs : List (List Keyed)} {rest : List Keyed} {lo : Nat} (R : Rs κ a₀ st segs rest) (hl : segs.flatten.length = lo) (h : Rl lo st st') : Rs κ a₀ st' segs ((arrOf st').toList.drop lo) := by
  refine ⟨h.sb R.sb, ?_, by rw [h.pend]; exact R.runs⟩
  conv => lhs; rw [← List.take_append_drop lo (arrOf st').toList]
  congr 1
  have e1 : (arrOf st).toList.take lo = segs.flatten := by rw [R.arr, ← hl, List.take_left]
  rw [← e1]
  refine List.ext_getElem? fun i => ?_
  rw [List.getElem?_take, List.getElem?_take]
  by_cases hi : i < lo
  · rw [if_pos hi, if_pos hi, Array.getElem?_toList, Array.getElem?_toList]
    exact h.low i hi
  · rw [if_neg hi, if_neg hi]
theorem srt_take {arr : Array Keyed} {lo n : Nat} (h : SrtI κ arr lo n) : ((arr.toList.drop lo).take n).Pairwise fun x y => kl κ x y = true := by
  rw [List.pairwise_iff_getElem]
  intro i j hi hj hij
  rw [List.length_take, List.length_drop, Array.length_toList] at hi hj
  refine h i j _ _ hij (by omega) ?_ ?_
  · rw [List.getElem_take, List.getElem_drop, Array.getElem_toList, Array.getElem?_eq_getElem]
  · rw [List.getElem_take, List.getElem_drop, Array.getElem_toList, Array.getElem?_eq_getElem]
theorem Rs.push {st : SortSt} {segs : List (List Keyed)} {rest : List Keyed} {lo n : Nat} {g : Nat} {pend : Array (Nat × Nat × Nat)} (R : Rs κ a₀ st segs rest) (hl : segs.flatten.length = lo) (h1 : 1 ≤ n) (hn : n ≤ rest.length) (hs : (rest.take n).Pairwise fun x y => kl κ x y = true) (hp : RunsOK κ pend.toList segs 0) :
    Rs κ a₀ (SortSt.mk' (kindOf st) (arrOf st) (pend.push (lo, n, 0)) g (failedOf st)) (segs ++ [rest.take n]) (rest.drop n) := by
  refine ⟨⟨R.sb.perm, R.sb.kind, R.sb.fail⟩, ?_, ?_⟩
  · show (arrOf st).toList = _
    rw [R.arr, List.flatten_append, List.append_assoc]
    congr 1
    show rest = (rest.take n ++ []) ++ rest.drop n
    rw [List.append_nil, List.take_append_drop]
  · show RunsOK κ (pend.push (lo, n, 0)).toList (segs ++ [rest.take n]) 0
    rw [Array.toList_push, RunsOK.app hp.len, Nat.zero_add]
    have ln : (rest.take n).length = n := by rw [List.length_take]; omega
    exact ⟨hp, hl.symm, ln.symm, by rw [ln]; exact h1, hs, trivial⟩
theorem flat_push {segs : List (List Keyed)} {rest : List Keyed} {lo n : Nat} (hl : segs.flatten.length = lo) (hn : n ≤ rest.length) : (segs ++ [rest.take n]).flatten.length = lo + n := by
  rw [List.flatten_append, List.length_append, hl, List.flatten_cons, List.flatten_nil, List.append_nil, List.length_take]
  omega
theorem modify_last {p : Array (Nat × Nat × Nat)} {i pw : Nat} : (p.modify i fun x => (x.fst, x.2.fst, pw)).toList.map (fun e => (e.1, e.2.1)) = p.toList.map fun e => (e.1, e.2.1) := by
  rw [Array.toList_modify]
  generalize p.toList = l
  refine List.ext_getElem? fun j => ?_
  rw [List.getElem?_map, List.getElem?_map, List.getElem?_modify]
  cases l[j]? with
  | none => rfl
  | some e =>
    show Option.map _ (some (if i = j then (e.fst, e.snd.fst, pw) else e)) = _
    by_cases h : i = j
    · rw [if_pos h]; rfl
    · rw [if_neg h]
theorem wpS_sortRunsI (hO : κ.OneLt) (U : Unl κ a₀) {st : SortSt} {Q : Unit → SortSt → Prop} (hS : Sb a₀ st) (hp : pendingOf st = #[]) (h2 : 2 ≤ a₀.size)
    (h : ∀ st', Sb a₀ st' → (arrOf st').toList.Pairwise (fun x y => kl κ x y = true) → Q () st') : wpS (model prog w) A E s sortRuns' Q st := by
  have hz := hS.size
  refine wpS_bind (wpS_get ?_)
  dsimp only
  refine wpS_bind (wpS_mono (wpS_forRange (I := fun x c st' => ∃ lo segs rest, c = (none, lo) ∧ x ≤ lo ∧ Rs κ a₀ st' segs rest ∧ segs.flatten.length = lo) (Q := fun c st' => ∃ lo segs, c = (none, lo) ∧ Rs κ a₀ st' segs []) ?step ?fin ?init) ?post)
  case init => exact ⟨0, [], (arrOf st).toList, rfl, Nat.le_refl _, ⟨hS, rfl, by rw [hp]; trivial⟩, rfl⟩
  case fin =>
    rintro c st' ⟨lo, segs, rest, rfl, g1, R, g3⟩
    have g1 : max 0 (arrOf st).size ≤ lo := g1
    have : rest = [] := by
      have e := congrArg List.length R.arr
      rw [Array.length_toList, R.sb.size, List.length_append] at e
      exact List.length_eq_zero_iff.mp (by omega)
    subst this
    exact ⟨lo, segs, rfl, R⟩
  case step =>
    rintro x c st1 _ hx ⟨lo, segs, rest, rfl, g1, R, g3⟩
    have hlen : lo + rest.length = a₀.size := by
      have e := congrArg List.length R.arr
      rw [Array.length_toList, R.sb.size, List.length_append, g3] at e
      omega
    refine wpS_ite (fun hge => ?_) fun hge => ?_
    · have hge : lo ≥ (arrOf st).size := hge
      have : rest = [] := List.length_eq_zero_iff.mp (by omega)
      subst this
      exact wpS_pure ⟨lo, segs, rfl, R⟩
    have hge : ¬ lo ≥ (arrOf st).size := hge
    refine wpS_bind (wpS_countRunI hO U R.sb (by show 1 ≤ (arrOf st).size - lo; omega) (by show lo + ((arrOf st).size - lo) ≤ _; omega) fun m st2 m1 m2 hR hs => ?_)
    dsimp only
    have R2 := R.move g3 hR
    have m2 : m ≤ (arrOf st).size - lo := m2
    refine wpS_ite (fun hmr => ?_) fun hmr => ?_
    case' refine_1 =>
      refine wpS_bind (wpS_lift (wpAny_rule ⟨rfl, ?_⟩))
      refine wpS_bind (wpS_binarySortI hO U R2.sb (Nat.le_min.mpr ⟨m2, Nat.le_of_lt hmr⟩) (Nat.le_trans m1 (Nat.le_min.mpr ⟨m2, Nat.le_of_lt hmr⟩)) (by have := Nat.min_le_left ((arrOf st).size - lo) (minRun' (arrOf st).size (arrOf st).size 0); show lo + min ((arrOf st).size - lo) (minRun' (arrOf st).size (arrOf st).size 0) ≤ _; omega) hs fun st3 hR3 hs3 => ?_)
      refine wpS_ite (fun z => absurd z (by decide)) fun _ => ?_
      have R3 := R2.move g3 hR3
      have n1 : 1 ≤ min ((arrOf st).size - lo) (minRun' (arrOf st).size (arrOf st).size 0) := Nat.le_trans m1 (Nat.le_min.mpr ⟨m2, Nat.le_of_lt hmr⟩)
      have n2 : min ((arrOf st).size - lo) (minRun' (arrOf st).size (arrOf st).size 0) ≤ (arrOf st).size - lo := Nat.min_le_left _ _
      change SrtI κ (arrOf st3) lo (min ((arrOf st).size - lo) (minRun' (arrOf st).size (arrOf st).size 0)) at hs3
    case' refine_2 =>
      have R3 := R2
      have n1 := m1
      have n2 := m2
      have hs3 := hs
      generalize st2 = st3 at R3 hs3
    all_goals
      have hr3 : ((arrOf st3).toList.drop lo).length = (arrOf st).size - lo := by rw [List.length_drop, Array.length_toList, R3.sb.size, hz]
      refine wpS_bind (wpS_get ?_)
      cases hb : (pendingOf st3).back? with
      | none =>
        exact wpS_bind (wpS_modify (wpS_pure ⟨_, _, _, rfl, Nat.add_le_add g1 n1, R3.push g3 n1 (Nat.le_trans n2 (Nat.le_of_eq hr3.symm)) (srt_take hs3) R3.runs, flat_push g3 (Nat.le_trans n2 (Nat.le_of_eq hr3.symm))⟩))
      | some e =>
        obtain ⟨s1, k1, pw1⟩ := e
        dsimp only
        refine wpS_bind (wpS_mono (wpS_forRange (I := fun x' c st' => c = (none, ()) ∧ ∃ sg, Rs κ a₀ st' sg ((arrOf st3).toList.drop lo) ∧ sg.flatten.length = lo) (Q := fun c st' => c = (none, ()) ∧ ∃ sg, Rs κ a₀ st' sg ((arrOf st3).toList.drop lo) ∧ sg.flatten.length = lo) ?_ (fun _ _ z => z) ⟨rfl, segs, R3, g3⟩) ?_)
        · rintro x' c st4 _ hx' ⟨rfl, sg, R4, l4⟩
          have hpl : (pendingOf st4).size = sg.length := by rw [← R4.runs.len, Array.length_toList]
          refine wpS_bind (wpS_get ?_)
          by_cases hp1 : (pendingOf st4).size > 1
          · rw [if_pos hp1]
            obtain ⟨e, he⟩ : ∃ e, (pendingOf st4)[(pendingOf st4).size - 2]? = some e := ⟨_, Array.getElem?_eq_getElem (by omega)⟩
            rw [he]
            obtain ⟨f1, f2, older⟩ := e
            dsimp only
            refine wpS_ite (fun _ => wpS_pure ⟨rfl, sg, R4, l4⟩) fun _ => ?_
            refine wpS_bind (wpS_mergeAtI hO U R4 (by show (pendingOf st4).size - 2 + 1 < sg.length; omega) fun st5 sg5 R5 _ l5 => ?_)
            refine wpS_ite (fun z => absurd z (by decide)) fun _ => ?_
            exact wpS_pure ⟨rfl, sg5, R5, l5.trans l4⟩
          · rw [if_neg hp1]
            exact wpS_pure ⟨rfl, sg, R4, l4⟩
        · rintro c st4 ⟨rfl, sg, R4, l4⟩
          exact wpS_bind (wpS_modify (wpS_bind (wpS_modify (wpS_pure ⟨_, _, _, rfl, Nat.add_le_add g1 n1, R4.push l4 n1 (Nat.le_trans n2 (Nat.le_of_eq hr3.symm)) (srt_take hs3) (R4.runs.re modify_last), flat_push l4 (Nat.le_trans n2 (Nat.le_of_eq hr3.symm))⟩))))
  case post =>
    rintro c st1 ⟨lo, segs, rfl, R⟩
    dsimp only
    have hsl : segs.length ≤ a₀.size := by
      have e := congrArg List.length R.arr
      rw [Array.length_toList, R.sb.size, List.append_nil] at e
      rw [e]
      have key : ∀ (p : List (Nat × Nat × Nat)) (l : List (List Keyed)) (n : Nat), RunsOK κ p l n → l.length ≤ l.flatten.length := fun p l => by
        induction l generalizing p with
        | nil => exact fun _ _ => Nat.le_refl _
        | cons a l ih =>
          intro n hr
          cases p with
          | nil => exact hr.elim
          | cons e p =>
            have := ih p _ hr.2.2.2.2
            have := hr.2.2.1
            rw [List.flatten_cons, List.length_append, List.length_cons]
            omega
      exact key _ _ _ R.runs
    refine wpS_bind (wpS_mono (wpS_forRange (I := fun x c st' => c = (none, ()) ∧ ∃ segs, Rs κ a₀ st' segs [] ∧ segs.length + x ≤ a₀.size) (Q := fun c st' => c = (none, ()) ∧ ∃ segs, Rs κ a₀ st' segs [] ∧ segs.length ≤ 1) ?_ ?_ ⟨rfl, segs, R, by omega⟩) ?_)
    · rintro x c st2 _ hx ⟨rfl, sg, R2, hl2⟩
      have hpl : (pendingOf st2).size = sg.length := by rw [← R2.runs.len, Array.length_toList]
      refine wpS_bind (wpS_get ?_)
      refine wpS_ite (fun hle => ?_) fun hle => ?_
      · have hle : (pendingOf st2).size ≤ 1 := hle
        exact wpS_pure ⟨rfl, sg, R2, by omega⟩
      have hle : ¬ (pendingOf st2).size ≤ 1 := hle
      refine wpS_bind (wpS_mergeAtI hO U R2 ?_ fun st3 sg3 R3 l3 _ => ?_)
      · have hidx : ∀ c : Bool, (if c = true then (pendingOf st2).size - 2 - 1 else (pendingOf st2).size - 2) + 1 < sg.length := fun c => by
          cases c
          · rw [if_neg Bool.false_ne_true]; omega
          · rw [if_pos rfl]; omega
        exact hidx _
      · refine wpS_ite (fun z => absurd z (by decide)) fun _ => ?_
        exact wpS_pure ⟨rfl, sg3, R3, by omega⟩
    · rintro c st2 ⟨rfl, sg, R2, hl2⟩
      have hl2 : sg.length + max 0 (arrOf st).size ≤ a₀.size := hl2
      exact ⟨rfl, sg, R2, by omega⟩
    · rintro c st2 ⟨rfl, sg, R2, hl2⟩
      refine wpS_pure (h st2 R2.sb ?_)
      have e := R2.arr
      rw [List.append_nil] at e
      rw [e]
      match sg, hl2, R2.runs with
      | [], _, _ => exact List.Pairwise.nil
      | [a], _, r =>
        rw [List.flatten_cons, List.flatten_nil, List.append_nil]
        cases hpp : (pendingOf st2).toList with
        | nil => rw [hpp] at r; exact r.elim
        | cons e p => rw [hpp] at r; exact r.2.2.2.1
      | _ :: _ :: _, hl, _ => simp at hl
end
end L2
namespace L2
open PySem PySem.Spec PyProof.Rows
section
variable {prog : Program} {w : World} {A : Around} {E : Value → Shared → Prop} {s : Shared} {fb : Bool} {fn : Nat}
theorem strs_unl {vs : List Value} {ss : List Str} (hS : StrsAre vs ss) (nd : ss.Nodup) : Unl strKind (pairsOf vs) := by
  refine ⟨fun x hx => ?_, ?_⟩
  · obtain ⟨a, ha⟩ := hS.keysOf x hx
    exact ⟨a, ha⟩
  · rw [pairsOf_toList]
    have key : ∀ {vs : List Value} {ss : List Str}, StrsAre vs ss → ss.Nodup → (vs.zip vs).Pairwise fun x y => kl strKind x y = true ∨ kl strKind y x = true := by
      intro vs ss h
      induction h with
      | nil => exact fun _ => List.Pairwise.nil
      | cons x t h ih =>
        intro nd
        rw [List.nodup_cons] at nd
        rw [List.zip_cons_cons]
        refine List.pairwise_cons.mpr ⟨fun p hp => ?_, ih nd.2⟩
        obtain ⟨e1, e2⟩ := mem_zip_self hp
        obtain ⟨y, u, ey⟩ := h.all _ e2
        have hne : x.cps.toList ≠ y.cps.toList := fun z => by
          have exy : x = y := by
            cases x; cases y
            exact congrArg Str.mk (Array.toList_inj.mp z)
          refine nd.1 ?_
          rw [exy, ← h.strs]
          exact List.mem_map.mpr ⟨_, e2, by rw [ey]; rfl⟩
        unfold kl ky
        rw [ey]
        show decide (x.cps.toList < y.cps.toList) = true ∨ decide (y.cps.toList < x.cps.toList) = true
        by_cases h4 : x.cps.toList < y.cps.toList
        · exact .inl (decide_eq_true h4)
        · by_cases h5 : y.cps.toList < x.cps.toList
          · exact .inr (decide_eq_true h5)
          · exact absurd (strKind.total _ _ (decide_eq_false h4) (decide_eq_false h5)) hne
    exact key hS nd
theorem sorted_big {st : SortSt} {a₀ : Array Keyed} (hp : (arrOf st).Perm a₀) (hs : (arrOf st).toList.Pairwise fun x y => kl strKind x y = true) : SortedToK strKind (arrOf st) a₀.size := fun i j hij hj => by
  by_cases e : i = j
  · subst e
    exact KeyOrd.kle_refl _
  · have hz := hp.size_eq
    have h1 : i < (arrOf st).size := by omega
    have h2 : j < (arrOf st).size := by omega
    have := srt_at hs (by omega : i < j) (Array.getElem?_eq_getElem h1) (Array.getElem?_eq_getElem h2)
    refine KeyOrd.kle_of_klt ?_
    unfold KK
    rw [Array.getElem?_eq_getElem h1, Array.getElem?_eq_getElem h2]
    exact this
theorem list_sort_big {a : Addr} {vs : List Value} {ss : List Str} {n : Nat} {P : PySem.Fin → Shared → Prop} (ho : s.heap.get? a = some (seqObj "list" vs.toArray n)) (hS : StrsAre vs ss) (nd : ss.Nodup) (hz : vs.length ≤ sizeLine)
    (h : ∀ st' : SortSt, (arrOf st').Perm (pairsOf vs) → SortedToK strKind (arrOf st') (pairsOf vs).size → P (.done (.ret .none)) { s with heap := sortedHeap s.heap a vs ((arrOf st').map (·.2)) }) :
    wpAny (model prog w) A (Builtin.«list.sort» ⟨[.ref a], []⟩) P E s := by
  by_cases h64 : vs.length < 64
  · exact list_sort_treeK strKind_oneLt ho hS.keysOf (fun v₁ v₂ rest e => keyKind_strs (by rw [← e]; exact hS)) h64 h
  rw [list_sort_plain]
  have ha : a < s.heap.objs.size := Heap.lt_size ho
  refine wpAny_bind (listItems_at ho rfl ?_)
  refine wpAny_bind (listUpdate_at ho rfl ?_ (by rw [List.size_toArray]; omega) (Nat.zero_le _))
  obtain ⟨e1, ho1⟩ : ∃ e1, (s.heap.update a (Obj.mapSeq fun _ => #[])).get? a = some (seqObj "list" #[] e1) := ⟨_, get?_update_seq ho (fun _ => #[])⟩
  refine wpAny_bind (seqEpoch_at ho1 rfl ?_)
  refine wpAny_bind (wpAny_newTuple ?_ (by show vs.length ≤ _; omega))
  refine wpAny_bind (wpAny_newList ?_ (Nat.zero_le _))
  refine wpAny_holding ?_
  have ho6 : (((s.heap.update a (Obj.mapSeq fun _ => #[])).push (seqObj "tuple" vs.toArray 0)).push (seqObj "list" #[] 0)).get? a = some (seqObj "list" #[] e1) := Heap.get?_push_of_some _ (Heap.get?_push_of_some _ ho1)
  show wpAny (model prog w) A _ P E { s with heap := ((s.heap.update a (Obj.mapSeq fun _ => #[])).push (seqObj "tuple" vs.toArray 0)).push (seqObj "list" #[] 0) }
  dsimp only
  have hn2 : ¬ vs.toArray.size < 2 := by rw [List.size_toArray]; omega
  rw [if_neg hn2, if_neg hn2]
  obtain ⟨v₁, v₂, rest, rfl⟩ : ∃ v₁ v₂ rest, vs = v₁ :: v₂ :: rest := by
    match vs, h64 with
    | [], h => simp at h
    | [_], h => simp at h
    | v₁ :: v₂ :: rest, _ => exact ⟨v₁, v₂, rest, rfl⟩
  rw [keyKind_strs hS]
  refine wpAny_bind (wpAny_pure ?_)
  refine wpAny_bind (wpAny_mono (wpS_sortRunsI (κ := strKind) (a₀ := pairsOf (v₁ :: v₂ :: rest)) strKind_oneLt (strs_unl hS nd) (st := SortSt.mk' oneType' ((v₁ :: v₂ :: rest).toArray.zip (v₁ :: v₂ :: rest).toArray) #[] 7 none)
    (Q := fun _ st' => Sb (pairsOf (v₁ :: v₂ :: rest)) st' ∧ (arrOf st').toList.Pairwise fun x y => kl strKind x y = true) ⟨Array.Perm.refl _, rfl, rfl⟩ rfl (by rw [pairsOf_size]; simp) fun st' b1 b2 => ⟨b1, b2⟩) ?_ fun _ _ e => e)
  rintro ⟨⟨⟩, st'⟩ s' ⟨rfl, hB, hs⟩
  dsimp only
  refine wpAny_bind (seqEpoch_at ho6 rfl ?_)
  refine wpAny_bind (listUpdate_at ho6 rfl ?_ (Nat.zero_le _) (Nat.le_trans (Nat.le_of_eq ((Array.size_map ..).trans (hB.perm.size_eq.trans (pairsOf_size _)))) (Nat.le_succ_of_le hz)))
  have hf : failedOf st' = none := hB.fail
  rw [hf]
  simp only [bne_self_eq_false, Bool.false_eq_true, if_false]
  exact wpAny_pure (h st' hB.perm (sorted_big hB.perm hs))
theorem sorted_setB {a : Addr} {ss : List Str} {Q : Value → Shared → Prop} (hh : A.in1.handled = none) (hS : SetAt prog w fb fn s.heap a ss) (hz : ss.length ≤ sizeLine)
    (h : ∀ (s' : Shared) (h' : Heap) (out : Array Value) (ss' : List Str) e, (∀ b o, s.heap.get? b = some o → s'.heap.get? b = some o) → s'.gens = s.gens → s'.os = s.os → (∀ b o, s'.heap.get? b = some o → h'.get? b = some o) → h'.get? s'.heap.objs.size = some (seqObj "list" out e) →
      StrsAre out.toList ss' → ss'.Perm ss → sortedS ss' = true → Q (.ref s'.heap.objs.size) { s' with heap := h' }) :
    wpAny (model prog w) A (call (.builtin "sorted") [.ref a]) Q E s := by
  refine Calls.call_function_entry kind_sorted plain_sorted entry_sorted (args_sorted1 _) ?_
  unfold Builtin.«sorted»
  refine wpAny_bind (m := checkCount "sorted" 1 1 _) (wpAny_pure ?_)
  refine wpAny_bind (collect_set hh hS (fun s' acc s1 kp hg hos hS1 p1 htb => ?_) hz)
  have hl : acc.toList.length = ss.length := by rw [strsAre_len hS1, p1.length_eq]
  refine wpAny_bind (wpAny_newList ?_ (by omega))
  have hoL : (s'.heap.push (seqObj "list" acc.toList.toArray 0)).get? s'.heap.objs.size = some (seqObj "list" acc.toList.toArray 0) := Heap.get?_push_size _ rfl
  refine wpAny_bind (wpAny_holding (wpAny_call_entry slot_list_sort ⟨_, hoL, rfl⟩ entry_list_sort (list_sort_big hoL hS1 (p1.nodup_iff.mpr hS.nodup) (by omega) fun st' a1 a2 => ⟨_, rfl, ?_⟩) (args_list_sort _)))
  obtain ⟨ss', h1, h2, h3⟩ := sorted_out_str hS1 a1 a2
  obtain ⟨e, he⟩ := sortedHeap_at (out := (arrOf st').map (·.2)) hoL
  refine wpAny_pure ⟨_, rfl, h s' _ _ ss' e kp hg hos (fun b o q => ?_) he h1 (h2.trans p1) h3⟩
  have hlt := Heap.lt_size q
  rw [sortedHeap_old (Nat.ne_of_lt hlt) (by rw [size_push']; exact Nat.lt_succ_of_lt hlt), Heap.get?_push_ne _ _ _ (Nat.ne_of_lt hlt)]
  exact q
end
section
variable {prog : Program} {w : World} {A : Around} {E : Value → Shared → Prop} {s : Shared}
theorem strsAre_at {vs : List Value} {ss : List Str} (h : StrsAre vs ss) : ∀ {i : Nat} {v : Value}, vs[i]? = some v → ∃ t, v = .str (ss.getD i ⟨#[]⟩) t := by
  induction h with
  | nil => intro i v e; cases e
  | cons x t h ih =>
    intro i v e
    cases i with
    | zero => exact ⟨t, by have : _ = v := Option.some.inj (by simpa using e); rw [← this]; rfl⟩
    | succ i =>
      obtain ⟨t', e'⟩ := ih (i := i) (v := v) (by simpa using e)
      exact ⟨t', by rw [e']; rfl⟩
theorem sw_tup (hh : A.handled = none) (I t : Addr) (hne : t ≠ I) {vs : List Value} {ss : List Str} (hS : StrsAre vs ss) :
    SW prog w A I [I, t] [I] ss.length (fun i => ss.getD i ⟨#[]⟩) false (fun i s => s.heap.IsTupleIter I t i ∧ s.heap.IsTuple t vs.toArray) := by
  have W := (Walks.tuple (prog := prog) (w := w) (A := A) hh I t hne vs.toArray).toS
  have hn : vs.toArray.size = ss.length := by rw [List.size_toArray]; exact strsAre_len hS
  rw [hn] at W
  refine ⟨W.sub, W.frame, fun i s Q E hi st hQ => W.item i s Q E hi st fun v s' hP st' hm => ?_, fun s Q E st hQ => W.done s Q E st hQ⟩
  obtain ⟨t', rfl⟩ := strsAre_at hS (i := i) (v := v) (by simpa using hP)
  exact hQ t' s' (fun z => nomatch z) st' hm
end
section
variable {X : Cx}
def rSetU (K : PySem.W.Frag) (P : Program) (w : World) : List V → Hp → VK → Prop := fun xs H Q => ∃ (p : Addr) (ss : List Str), xs = [.ref p] ∧ SqT K H p (ss.map V.str) ∧ ss.length ≤ 4000 ∧
  ∀ q ss' n, H q = none → ss'.Nodup → ss'.length ≤ ss.length → (∀ y, y ∈ ss' ↔ y ∈ ss) → Q (.ref q) (upd H q (HSet P w false n q ss'))
theorem c_setU (hc : X.calm = true) : CallR X (.type "set") (rSetU X.K X.prog X.w) := by
  intro pins s σ H xs us Q I r h
  obtain ⟨p, ss, rfl, hp, hz, q⟩ := h
  obtain ⟨u, rfl, rx⟩ := vals1 r
  cases rx
  obtain ⟨its, rv, pl, _⟩ := I.tuple hp
  have hS := strsAre_of rv
  obtain ⟨o, ho, hcl, m, hd⟩ := id pl
  have hlt : p < s.heap.objs.size := Heap.lt_size ho
  have hn : ss.length + 1 < scanBound := by show _ < 4096; omega
  refine wpAny_with_toks (Nat.le_refl _) (set_of (T := "tuple") (n := ss.length) false (I.ok.hd hc) hn (fun i => ss.getD i ⟨#[]⟩) (fun z => nomatch z)
    (fun h' kp => ⟨o, kp _ _ ho, hcl⟩) PySem.F.sub_tuple_set PySem.F.sub_tuple_frozenset (by decide) (fun A' h' K E' kp k => ?_) fun h' tk ss' kp S l m htk => ?_)
  · have hT : h'.IsTuple p its.toArray := ⟨o, kp _ _ ho, hcl, m, hd⟩
    refine wpAny_pyIter_tuple hT ?_
    have hne : p ≠ h'.objs.size := Nat.ne_of_lt (Heap.lt_size (kp _ _ ho))
    refine k _ [h'.objs.size, p] [h'.objs.size] _ (fun b hb => ?_) (fun b hb => List.mem_singleton.mp hb) (fun A'' hA => sw_tup hA _ p hne hS) ⟨⟨_, Heap.get?_push_size _ rfl, rfl, rfl⟩, hT.push _⟩
    rcases List.mem_cons.mp hb with z | z
    · exact .inl z
    · exact .inr (by rw [List.mem_singleton.mp z]; exact hlt)
  · have htk : s.toks ≤ tk := htk
    have I1 : Inv X pins σ (upd H s.heap.objs.size (HSet X.prog X.w false tk s.heap.objs.size ss')) { s with heap := h', toks := tk } := I.laid kp (Nat.le_refl _) (hset_ok S) htk
    refine ⟨.ref s.heap.objs.size, _, I1, rfl, q _ ss' tk (I.hok.fresh (Nat.le_refl _)) S.nodup l fun y => ?_⟩
    rw [m]
    constructor
    · rintro ⟨j, hj, e⟩
      rw [← e]
      simp [hj]
    · intro hy
      obtain ⟨j, hj, e2⟩ := List.getElem_of_mem hy
      exact ⟨j, hj, by simp [hj, e2]⟩
def rSortedB (P : Program) (w : World) : List V → Hp → VK → Prop := fun xs H Q => ∃ p ss f n, xs = [.ref p] ∧ H p = some (HSet P w f n p ss) ∧ ss.length ≤ sizeLine ∧
  ∀ l ss', H l = none → ss'.Perm ss → sortedS ss' = true → Q (.ref l) (upd H l (.lst (ss'.map V.str)))
theorem c_sortedB (hc : X.calm = true) : CallR X (.builtin "sorted") (rSortedB X.prog X.w) := by
  intro pins s σ H xs us Q I r h
  obtain ⟨p, ss, f, n, rfl, hp, hz, q⟩ := h
  obtain ⟨u, rfl, rx⟩ := vals1 r
  cases rx
  have S : SetAt X.prog X.w f n s.heap p ss := (I.hok p _ hp).1
  refine wpAny_with_toks (Nat.le_refl _) (sorted_setB (I.ok.hd hc) S hz fun s' h' out ss' e kp hg hos kp2 he h1 h2 h3 htk => ?_)
  have htk : s.toks ≤ s'.toks := htk
  have hlen : ss'.length ≤ sizeLine := by rw [h2.length_eq]; exact hz
  have I1 : Inv X pins σ H s' := I.kept' kp hg hos htk
  have I2 : Inv X pins σ (upd H s'.heap.objs.size (.lst (ss'.map V.str))) { s' with heap := h' } :=
    I1.laid (t' := s'.toks) kp2 (Nat.le_refl _) ⟨by rw [List.length_map]; exact hlen, out.toList, e, vals_strs h1, by rw [Array.toArray_toList]; exact he⟩
  exact ⟨.ref s'.heap.objs.size, _, I2, rfl, q _ ss' (I1.hok.fresh (Nat.le_refl _)) h2 h3⟩
end
end L2
namespace L2
open PySem PySem.Spec PyProof.Rows
section
variable {prog : Program} {w : World} {A : Around} {E : Value → Shared → Prop} {s : Shared}
theorem list_no_keys : typeLookup (.type "list") "keys" = pure none := by rw [typeLookup_type, builtinLookup_eq_fast]; kernel_rfl
theorem attr_none_list {a : Addr} {o : Obj} {xs : Array Value} {k : Nat} {Q : Option Value → Shared → Prop}
    (hx : s.heap.get? a = some o) (hc : o.cls = .type "list") (hdat : o.data = .seq xs k) (hd : o.dict = none) (hA : A.handled = none)
    (h : ∀ h' tk e, Heap.NewExcOf s.heap h' e "AttributeError" → Q none { s with heap := h', toks := tk }) :
    wpAny (model prog w) A (getAttr? (.ref a) "keys") Q E s := by
  obtain ⟨c, dct, dat, sl⟩ := o
  simp only at hc hdat hd
  subst hc hdat hd
  obtain ⟨hp, g, d, tk, os⟩ := s
  have hT : ∀ tk', (⟨hp, g, d, tk', os⟩ : Shared).TypeIs (.ref a) "list" := fun _ => ⟨_, hx, rfl⟩
  have f1 := sub_AttributeError
  have f3 := F.slot_list_getattribute.lookup
  have f4 := F.slot_list_getattribute.bind (.ref a)
  have f5 := am_list_getattr_none
  unfold getAttr? getAttrBy? getAttrBy
  repeat (any_goals (first | assumption | exact hT _ | ((with_reducible show wpAny _ _ (call (Value.builtin "list.__getattribute__") _ _) _ _ _); refine call_meets F.slot_list_getattribute (hT _) am_entry_list_getattribute (F.args_list_getattribute_2 _ _) (meets_getattribute_miss_list a xs k sl "keys" _ list_no_keys (by decide) (by decide)) ⟨hx, hA, fun h' tk' e hx' => ?_⟩) | wp_step))
  obtain ⟨t', u', he⟩ := hx'.there
  show wpAny _ _ (getattributeRaised _ _ _ _ _ _ _) _ _ _
  unfold getattributeRaised
  repeat (any_goals (first | assumption | wp_step))
  exact h _ _ _ hx'.of
theorem entry_update_loop : entryFor table "dict.update.loop" = some Builtin.«dict.update.loop» := entryFor_of_tree (by kernel_rfl)
theorem plain_update_loop : plainId "dict.update.loop" = true := by decide +kernel
def PairT (h : Heap) (b : Addr) (x : Str) : Prop := ∃ o t n, h.get? b = some o ∧ o.cls = .type "tuple" ∧ o.data = .seq #[.str x t, .bool true] n
theorem update_loop {R : Result → Shared → Prop} {I D l : Addr} (hh : A.in1.handled = none) (hne : l ≠ I) (q : List (Addr × Str)) (hDI : D ≠ I) (hDl : D ≠ l) (hz : q.length ≤ sizeLine) :
    ∀ (k i : Nat) (s : Shared) (tk : Tok) (kvs : List (Key × Value)), q.length - i = k → i ≤ q.length → s.heap.IsListIter I l i → s.heap.IsList l (q.map fun e => Value.ref e.1).toArray → (∀ e ∈ q, e.1 ≠ I ∧ e.1 ≠ D ∧ PairT s.heap e.1 e.2) →
      s.heap.DictOf (mixKind prog w) D kvs → kvs.length ≤ i →
      (∀ h' tk, h'.DictOf (mixKind prog w) D (merged kvs ((q.drop i).map fun e => (Sum.inr e.2, Value.bool true))) → (∀ b o, b ≠ D → b ≠ I → s.heap.get? b = some o → h'.get? b = some o) → R (.ok (.ret .none)) { s with heap := h', toks := tk }) →
      codeAny (model prog w) A (.builtin "dict.update.loop" ⟨[.ref D, .ref I, .int i tk, .none], []⟩) R s := by
  intro k
  induction k with
  | zero =>
    intro i s tk kvs hk hi hit hl hq hd hkl hR
    refine codeAny_builtin entry_update_loop ?_
    rw [Around.under_plainId plain_update_loop _]
    show wpAny _ A.in1 (pyNext (.ref I) >>= _) _ _ s
    refine wpAny_bind (wpAny_pyNext_list_end hh hit hl (by simp; omega) fun h' he' => ?_)
    dsimp only
    have e : q.drop i = [] := List.drop_eq_nil_of_le (by omega)
    rw [e] at hR
    have hd' : h'.DictOf (mixKind prog w) D kvs := by
      obtain ⟨o, es, ep, h1, r⟩ := hd
      exact ⟨o, es, ep, he' D o hDI h1, r⟩
    exact wpAny_bind (wpAny_pure (wpAny_pure (hR h' s.toks hd' fun b o _ hb z => he' b o hb z)))
  | succ k ih =>
    intro i s tk kvs hk hi hit hl hq hd hkl hR
    have hlt : i < q.length := by omega
    obtain ⟨e, he⟩ : ∃ e, q[i]? = some e := ⟨_, List.getElem?_eq_getElem hlt⟩
    have hem : e ∈ q := List.mem_of_getElem? he
    refine codeAny_builtin entry_update_loop ?_
    rw [Around.under_plainId plain_update_loop _]
    show wpAny _ A.in1 (pyNext (.ref I) >>= _) _ _ s
    refine wpAny_bind (wpAny_pyNext_list_item (x := .ref e.1) hit hl (by simp [he]) fun h' hit' hs' => ?_)
    dsimp only
    have kp : ∀ b o, b ≠ I → s.heap.get? b = some o → h'.get? b = some o := fun b o hb z => hs'.extBut b o hb z
    obtain ⟨n1, n2, o, t, n, h1, h2, h3⟩ := hq e hem
    have h1' := kp _ _ n1 h1
    have hd' : h'.DictOf (mixKind prog w) D kvs := by
      obtain ⟨o, es, ep, g1, r⟩ := hd
      exact ⟨o, es, ep, kp D o hDI g1, r⟩
    refine wpAny_bind (wpAny_holding ?_)
    refine wpAny_bind (wpAny_tryCatch ?_)
    unfold Builtin.Dict.pairItems
    refine wpAny_bind (wpAny_typeOf (s := { s with heap := h' }) (T := "tuple") ⟨o, h1', h2⟩ ?_)
    rw [if_pos (by decide)]
    refine wpAny_bind (wpAny_seqItems h1' h3 (wpAny_pure ?_))
    show wpAny _ _ (holding [.str e.2 t, .bool true] (dictSet D (.str e.2 t) (.bool true))) _ _ _
    refine wpAny_holding (wpAny_dictSet_pairs (knd := mixKind prog w) (k := Sum.inr e.2) (mixKind_str prog w e.2 t) hd' (fun h2' hd2 hs2 => ?_) (by omega))
    have kp2 : ∀ b o, b ≠ D → b ≠ I → s.heap.get? b = some o → h2'.get? b = some o := fun b o hb hbI z => hs2.extBut b o hb (kp b o hbI z)
    refine wpAny_pure ⟨plainId_quiet plain_update_loop _, ?_⟩
    refine ih (i + 1) _ _ (stored kvs (Sum.inr e.2) (.bool true)) (by omega) (by omega) ?_ ?_ (fun f hf => ?_) hd2 (Nat.le_trans (stored_length_le _ _ _) (by omega)) fun h3' tk3 hd3 kp3 => ?_
    · exact hit'.at fun o z => hs2.extBut I o (Ne.symm hDI) z
    · obtain ⟨o, g1, g2⟩ := hl
      exact ⟨o, kp2 l o (Ne.symm hDl) hne g1, g2⟩
    · obtain ⟨m1, m2, o, t, n, g1, g2⟩ := hq f hf
      exact ⟨m1, m2, o, t, n, kp2 _ _ m2 m1 g1, g2⟩
    · refine hR h3' tk3 ?_ fun b o hb hbI z => kp3 b o hb hbI (kp2 b o hb hbI z)
      have ed : q.drop i = e :: q.drop (i + 1) := by
        obtain ⟨g1, g2⟩ := List.getElem?_eq_some_iff.mp he
        rw [List.drop_eq_getElem_cons g1, g2]
      rw [ed]
      exact hd3
theorem nodup_keys {q : List (Addr × Str)} (nd : (q.map (·.2)).Nodup) : (q.map ((fun x : Key × Value => x.1) ∘ fun e => ((Sum.inr e.2 : Key), Value.bool true))).Nodup := by
  rw [List.nodup_iff_pairwise_ne, List.pairwise_map] at nd ⊢
  exact nd.imp fun z y => z (Sum.inr.inj y)
theorem dict_pairs {l : Addr} {n : Nat} {ol : Obj} {q : List (Addr × Str)} {Q : Value → Shared → Prop} (hh : A.handled = none) (hl : s.heap.get? l = some ol) (hc : ol.cls = .type "list") (hdn : ol.dict = none) (hdat : ol.data = .seq (q.map fun e => Value.ref e.1).toArray n) (hq : ∀ e ∈ q, PairT s.heap e.1 e.2) (nd : (q.map (·.2)).Nodup) (hz : q.length ≤ sizeLine)
    (h : ∀ h' tk, h'.DictOf (mixKind prog w) s.heap.objs.size (q.map fun e => (Sum.inr e.2, Value.bool true)) → (∀ b o, s.heap.get? b = some o → h'.get? b = some o) → Q (.ref s.heap.objs.size) { s with heap := h', toks := tk }) :
    wpAny (model prog w) A (call (.type "dict") [.ref l]) Q E s := by
  refine callType_codes (Q₁ := fun obj s₁ => obj = .ref s.heap.objs.size ∧ s₁ = { s with heap := s.heap.push { cls := .type "dict", data := .dict #[] } }) F.kt_called_dict (F.kt_typeCall_dict_1 _) F.entry_dict_init (kt_code_dict_new _ ⟨rfl, rfl⟩) ?_
  rintro obj s₁ ⟨rfl, rfl⟩
  have hnew : (s.heap.push { cls := .type "dict", data := .dict #[] }).DictOf (mixKind prog w) s.heap.objs.size [] := Heap.DictOf.new s.heap
  have hl1 : (s.heap.push { cls := .type "dict", data := .dict #[] }).get? l = some ol := Heap.get?_push_of_some _ hl
  have hz1 : (s.heap.push { cls := .type "dict", data := .dict #[] }).objs.size = s.heap.objs.size + 1 := Heap.size_push ..
  refine ⟨hnew.typeIs, F.args_dict_init_2 _ _, ?_⟩
  unfold Builtin.«dict.__init__»
  refine wpAny_bind ?_
  unfold Builtin.Dict.selfAndRest
  refine wpAny_bind (wpAny_notOrdered_dict hnew.typeIs ?_)
  show wpAny _ _ (pure (s.heap.objs.size, [Value.ref l])) _ _ _
  refine wpAny_pure ?_
  show wpAny _ _ (Builtin.Dict.updateFrom "dict.__init__" s.heap.objs.size (.ref l) [] .none) _ _ _
  unfold Builtin.Dict.updateFrom
  refine wpAny_bind (wpAny_typeOf (s := { s with heap := s.heap.push { cls := .type "dict", data := .dict #[] } }) (T := "list") ⟨_, hl1, hc⟩ ?_)
  rw [if_pos (by decide)]
  refine wpAny_bind (attr_none_list (s := { s with heap := s.heap.push { cls := .type "dict", data := .dict #[] } }) hl1 hc hdat hdn hh fun h2 tk2 e2 hx => ?_)
  rw [if_pos (show (none : Option Value).isNone = true from rfl)]
  refine wpAny_bind (wpAny_rule ?_)
  have kp2 : ∀ b o, (s.heap.push { cls := .type "dict", data := .dict #[] }).get? b = some o → h2.get? b = some o := hx.keeps
  have hl2 := kp2 _ _ hl1
  have isl : h2.IsList l (q.map fun e => Value.ref e.1).toArray := ⟨_, hl2, hc, n, hdat⟩
  have hlt : s.heap.objs.size < h2.objs.size := Heap.lt_size (kp2 _ _ (Heap.get?_push_size _ rfl))
  refine wpAny_bind (wpAny_pyIter_list isl ?_)
  have kp3 : ∀ b o, s.heap.get? b = some o → (h2.push { cls := .type "list_iterator", data := .fields #[.ref l, .int 0 0] }).get? b = some o := fun b o z => Heap.get?_push_of_some _ (kp2 _ _ (Heap.get?_push_of_some _ z))
  have hd2 : (h2.push { cls := .type "list_iterator", data := .fields #[.ref l, .int 0 0] }).DictOf (mixKind prog w) s.heap.objs.size [] := by
    obtain ⟨o, es, ep, g1, r⟩ := hnew
    exact ⟨o, es, ep, Heap.get?_push_of_some _ (kp2 _ _ g1), r⟩
  refine wpAny_pure ⟨plainId_quiet plain_update_loop _, update_loop (A := A.in1) (I := h2.objs.size) (D := s.heap.objs.size) (l := l) hh (Nat.ne_of_lt (Heap.lt_size hl2)) q (Nat.ne_of_lt hlt) (Nat.ne_of_gt (Heap.lt_size hl)) hz q.length 0 _ _ [] (by omega) (Nat.zero_le _) ⟨_, Heap.get?_push_size _ rfl, rfl, rfl⟩ (isl.push _) (fun e he => ?_) hd2 (Nat.le_refl _) fun h' tk hd' kp' => ?_⟩
  · obtain ⟨o, t, m, g1, g2⟩ := hq e he
    have := Heap.lt_size g1
    exact ⟨Nat.ne_of_lt (Nat.lt_trans this hlt), Nat.ne_of_lt this, o, t, m, kp3 _ _ g1, g2⟩
  · refine ⟨rfl, h h' tk ?_ fun b o z => ?_⟩
    · rw [List.drop_zero, merged_nil_of_nodup _ (by rw [List.map_map]; exact nodup_keys nd)] at hd'
      exact hd'
    · have := Heap.lt_size z
      exact kp' b o (Nat.ne_of_lt this) (Nat.ne_of_lt (Nat.lt_trans this hlt)) (kp3 b o z)
end
section
variable {X : Cx}
def rDictP (K : PySem.W.Frag) : List V → Hp → VK → Prop := fun xs H Q => ∃ (p : Addr) (q : List (Addr × Str)), xs = [.ref p] ∧ SqL K H p (q.map fun e => V.ref e.1) ∧ (∀ e ∈ q, H e.1 = some (.tup [.str e.2, .bl true])) ∧ (q.map (·.2)).Nodup ∧
  ∀ d, H d = none → Q (.ref d) (upd H d (.dK (q.map fun e => (Sum.inr e.2, V.bl true))))
theorem kv_pairs : ∀ q : List (Addr × Str), KV (q.map fun e => ((Sum.inr e.2 : Key), V.bl true)) (q.map fun e => ((Sum.inr e.2 : Key), Value.bool true))
  | [] => .nil
  | _ :: q => .cons ⟨rfl, rfl⟩ (kv_pairs q)
theorem refs2_vals : ∀ {q : List (Addr × Str)} {us : List Value}, Vals (q.map fun e => V.ref e.1) us → us = q.map fun e => Value.ref e.1
  | [], _, r => by rw [List.map_nil] at r; cases r; rfl
  | e :: q, _, r => by
    rw [List.map_cons] at r
    cases r with
    | cons h t => cases h; rw [refs2_vals t]; rfl
theorem c_dictP (hc : X.calm = true) : CallR X (.type "dict") (rDictP X.K) := by
  intro pins s σ H xs us Q I r h
  obtain ⟨p, q, rfl, hp, ht, nd, k⟩ := h
  obtain ⟨u, rfl, rx⟩ := vals1 r
  cases rx
  obtain ⟨its, rv, pl, hz⟩ := I.list hp
  have e := refs2_vals rv
  subst e
  rw [List.length_map] at hz
  have hpair : ∀ e ∈ q, PairT s.heap e.1 e.2 := fun e he => by
    obtain ⟨_, its, r, o, h1, h2, n, h3⟩ := I.hok e.1 _ (ht e he)
    cases r with
    | cons r1 r2 =>
      cases r2 with
      | cons r2 r3 =>
        cases r3
        obtain ⟨t, rfl⟩ := r1
        cases r2
        exact ⟨o, t, n, h1, h2, h3⟩
  obtain ⟨ol, n, pl1, pl2, pl3, pl4⟩ := pl
  refine wpAny_with_toks (Nat.le_refl _) (dict_pairs (I.ok.hd hc) pl1 pl2 pl3 pl4 hpair nd hz fun h' tk hd' kp htk => ?_)
  have htk : s.toks ≤ tk := htk
  have I1 : Inv X pins σ (upd H s.heap.objs.size (.dK (q.map fun e => (Sum.inr e.2, V.bl true)))) { s with heap := h', toks := tk } :=
    I.laid kp (Nat.le_refl _) (dk_new (by rw [List.length_map]; exact hz) (beq_eq_false_iff_ne.mpr (Ne.symm (Nat.ne_of_lt I.big))) (kv_pairs q) hd') htk
  exact ⟨.ref s.heap.objs.size, _, I1, rfl, k _ (I.hok.fresh (Nat.le_refl _))⟩
def rNotInD : R2 := fun x y H Q => ∃ a o, y = .ref a ∧ DGet H a x o ∧ Q (.bl (!o.isSome)) H
theorem op_notInD (hu : X.A.units + 1 < cLine) : OpR X (compareOp .NotIn) rNotInD := by
  intro pins s σ H x y v u Q I rx ry h
  obtain ⟨a, o, rfl, g, q⟩ := h
  obtain rfl : u = Value.ref a := ry
  exact d_notIn hu I g rx fun s3 I3 => ⟨.bl (!o.isSome), H, I3, rfl, q⟩
end
end L2
namespace TR
section
variable {td : Nat → Nat → Bool}
def fl (td : Nat → Nat → Bool) (v : List Nat) : List Nat := (List.range 123).filter fun c => decide (c ∈ firsts td v)
theorem fl_up (v : List Nat) : (fl td v).Pairwise (· < ·) := List.Pairwise.filter _ List.pairwise_lt_range
theorem mem_fl (T : Td td) {v : List Nat} (hv : ∀ c ∈ v, c < 123) {c : Nat} : c ∈ fl td v ↔ Fr td c v := by
  unfold fl
  rw [List.mem_filter, List.mem_range, decide_eq_true_iff, mem_firsts T]
  exact ⟨fun z => z.2, fun z => ⟨hv c z.mem, z⟩⟩
theorem nodup_upF {L : List Nat} (h : L.Pairwise (· < ·)) : L.Nodup := h.imp fun z => Nat.ne_of_lt z
theorem fl_eq (T : Td td) {F v : List Nat} (hv : ∀ c ∈ v, c < 123) (up : F.Pairwise (· < ·)) (hF : ∀ a, a ∈ F ↔ Fr td a v) : F = fl td v :=
  List.Perm.eq_of_pairwise (fun a b _ _ x y => absurd x (Nat.lt_asymm y)) up (fl_up v) ((List.perm_ext_iff_of_nodup (nodup_upF up) (nodup_upF (fl_up v))).mpr fun a => (hF a).trans (mem_fl T hv).symm)
def lw (td : Nat → Nat → Bool) : Nat → List Nat → List (List Nat)
  | 0, _ => [[]]
  | n + 1, w => (fl td w).flatMap fun c => (lw td n (w.erase c)).map (c :: ·)
theorem erase_lt {w : List Nat} (h : ∀ c ∈ w, c < 123) (a : Nat) : ∀ c ∈ w.erase a, c < 123 := fun c hc => h c (List.mem_of_mem_erase hc)
theorem mem_lw (T : Td td) : ∀ {n : Nat} {w v : List Nat}, w.length = n → (∀ c ∈ w, c < 123) → (v ∈ lw td n w ↔ Heq td v w)
  | 0, w, v, hn, _ => by
    have : w = [] := List.length_eq_zero_iff.mp hn
    subst this
    unfold lw
    rw [List.mem_singleton]
    constructor
    · rintro rfl
      exact Heq.refl _ _
    · intro h
      exact List.length_eq_zero_iff.mp (h.len T)
  | n + 1, w, v, hn, hw => by
    unfold lw
    rw [List.mem_flatMap]
    constructor
    · rintro ⟨c, hc, hv⟩
      obtain ⟨u, hu, rfl⟩ := List.mem_map.mp hv
      have f := (mem_fl T hw).mp hc
      have h1 := (mem_lw T (by rw [List.length_erase_of_mem f.mem]; omega) (erase_lt hw c)).mp hu
      exact (h1.cons c).trans (f.off T).symm
    · intro h
      cases v with
      | nil =>
        have := h.len T
        rw [hn] at this
        cases this
      | cons c u =>
        have f : Fr td c w := ((fr_cons T).mpr (.inl rfl) : Fr td c (c :: u)).heq T h
        refine ⟨c, (mem_fl T hw).mpr f, List.mem_map.mpr ⟨u, (mem_lw T (by rw [List.length_erase_of_mem f.mem]; omega) (erase_lt hw c)).mpr ?_, rfl⟩⟩
        have h2 : Heq td ([c] ++ u) ([c] ++ w.erase c) := h.trans (f.off T)
        exact h2.left
theorem lw_up : ∀ (n : Nat) (w : List Nat), (lw td n w).Pairwise (· < ·)
  | 0, _ => List.pairwise_singleton _ _
  | n + 1, w => by
    unfold lw
    have go : ∀ F : List Nat, F.Pairwise (· < ·) → (F.flatMap fun c => (lw td n (w.erase c)).map (c :: ·)).Pairwise (· < ·) := fun F => by
      induction F with
      | nil => exact fun _ => List.Pairwise.nil
      | cons c F ih =>
        intro hp
        obtain ⟨p1, p2⟩ := List.pairwise_cons.mp hp
        rw [List.flatMap_cons, List.pairwise_append]
        refine ⟨?_, ih p2, fun x hx y hy => ?_⟩
        · rw [List.pairwise_map]
          exact (lw_up n _).imp fun z => List.cons_lt_cons_iff.mpr (.inr ⟨rfl, z⟩)
        · obtain ⟨u, _, rfl⟩ := List.mem_map.mp hx
          obtain ⟨d, hd, hy⟩ := List.mem_flatMap.mp hy
          obtain ⟨v, _, rfl⟩ := List.mem_map.mp hy
          exact List.cons_lt_cons_iff.mpr (.inl (p1 d hd))
    exact go _ (fl_up w)
theorem lw_nodup (n : Nat) (w : List Nat) : (lw td n w).Nodup := (lw_up n w).imp fun {a b} z e => by subst e; exact List.lt_irrefl _ z
theorem lw_cnt (T : Td td) {w : List Nat} (hw : ∀ c ∈ w, c < 123) : (lw td w.length w).length = cnt td w := cnt_of T (lw_nodup _ _) fun _ => mem_lw T rfl hw
def fac : Nat → Nat
  | 0 => 1
  | n + 1 => (n + 1) * fac n
theorem lw_len (T : Td td) : ∀ {n : Nat} {w : List Nat}, w.length = n → (∀ c ∈ w, c < 123) → (lw td n w).length ≤ fac n
  | 0, _, _, _ => Nat.le_refl _
  | n + 1, w, hn, hw => by
    unfold lw
    have hF : (fl td w).length ≤ n + 1 := by
      rw [← hn]
      exact nodup_len_le (nodup_upF (fl_up w)) fun c hc => ((mem_fl T hw).mp hc).mem
    have go : ∀ F : List Nat, (∀ c ∈ F, c ∈ w) → (F.flatMap fun c => (lw td n (w.erase c)).map (c :: ·)).length ≤ F.length * fac n := fun F => by
      induction F with
      | nil => exact fun _ => Nat.zero_le _
      | cons c F ih =>
        intro hF
        rw [List.flatMap_cons, List.length_append, List.length_map, List.length_cons, Nat.add_mul]
        have h1 := lw_len T (n := n) (w := w.erase c) (by rw [List.length_erase_of_mem (hF c List.mem_cons_self)]; omega) (erase_lt hw c)
        have h2 := ih fun d hd => hF d (List.mem_cons_of_mem _ hd)
        omega
    exact Nat.le_trans (go _ fun c hc => ((mem_fl T hw).mp hc).mem) (Nat.mul_le_mul_right _ hF)
theorem lw_ne (T : Td td) {n : Nat} {w : List Nat} (hn : w.length = n) (hw : ∀ c ∈ w, c < 123) : 1 ≤ (lw td n w).length := List.length_pos_of_mem ((mem_lw T hn hw).mpr (Heq.refl _ _))
def nxt (td : Nat → Nat → Bool) (rows : List (List Nat × List Nat)) : List (List Nat × List Nat) := rows.flatMap fun p => (fl td p.2).map fun c => (p.1 ++ [c], p.2.erase c)
def dn (td : Nat → Nat → Bool) (k : Nat) (rows : List (List Nat × List Nat)) : List (List Nat) := rows.flatMap fun p => (lw td k p.2).map fun x => p.1 ++ x
theorem dn_nxt (k : Nat) : ∀ rows : List (List Nat × List Nat), dn td k (nxt td rows) = dn td (k + 1) rows
  | [] => rfl
  | p :: rows => by
    have ih := dn_nxt k rows
    unfold dn nxt at ih ⊢
    rw [List.flatMap_cons, List.flatMap_append, ih, List.flatMap_cons]
    congr 1
    show _ = ((fl td p.2).flatMap fun c => (lw td k (p.2.erase c)).map (c :: ·)).map fun x => p.1 ++ x
    rw [List.flatMap_map, List.map_flatMap]
    congr 1
    funext c
    rw [List.map_map]
    refine List.map_congr_left fun x _ => ?_
    show p.1 ++ [c] ++ x = p.1 ++ c :: x
    rw [List.append_assoc]
    rfl
theorem dn_zero : ∀ rows : List (List Nat × List Nat), dn td 0 rows = rows.map (·.1)
  | [] => rfl
  | p :: rows => by
    have ih := dn_zero rows
    unfold dn at ih ⊢
    rw [List.flatMap_cons, ih]
    show [p.1 ++ []] ++ _ = _
    rw [List.append_nil]
    rfl
theorem dn_len (T : Td td) {k : Nat} : ∀ {rows : List (List Nat × List Nat)}, (∀ p ∈ rows, p.2.length = k ∧ ∀ c ∈ p.2, c < 123) → rows.length ≤ (dn td k rows).length
  | [], _ => Nat.le_refl _
  | p :: rows, h => by
    have ih := dn_len T (rows := rows) fun q hq => h q (List.mem_cons_of_mem _ hq)
    have h1 := lw_ne T (h p List.mem_cons_self).1 (h p List.mem_cons_self).2
    unfold dn at ih ⊢
    rw [List.flatMap_cons, List.length_append, List.length_map, List.length_cons]
    omega
theorem nxt_snoc (rows : List (List Nat × List Nat)) (p : List Nat × List Nat) : nxt td (rows ++ [p]) = nxt td rows ++ (fl td p.2).map fun c => (p.1 ++ [c], p.2.erase c) := by
  unfold nxt
  rw [List.flatMap_append, List.flatMap_cons, List.flatMap_nil, List.append_nil]
theorem fl_len (v : List Nat) : (fl td v).length ≤ 123 := by
  unfold fl
  exact Nat.le_trans (List.length_filter_le _ _) (by rw [List.length_range]; exact Nat.le_refl _)
theorem nxt_len : ∀ rows : List (List Nat × List Nat), (nxt td rows).length ≤ 123 * rows.length
  | [] => Nat.le_refl _
  | p :: rows => by
    have ih := nxt_len rows
    have h1 := fl_len (td := td) p.2
    unfold nxt at ih ⊢
    rw [List.flatMap_cons, List.length_append, List.length_map, List.length_cons]
    omega
theorem fac_six {n : Nat} (h : n ≤ 6) : fac n ≤ 720 := by
  match n, h with
  | 0, _ => decide
  | 1, _ => decide
  | 2, _ => decide
  | 3, _ => decide
  | 4, _ => decide
  | 5, _ => decide
  | 6, _ => decide
end
end TR
namespace HW
open PySem L2 PyProof.Rows
theorem lw_head {td : Nat → Nat → Bool} (Td : TR.Td td) : ∀ {n : Nat} {w : List Nat}, w.length = n → (∀ c ∈ w, c < 123) → ∃ r, TR.lw td n w = TR.plN td n w :: r
  | 0, _, _, _ => ⟨[], rfl⟩
  | n + 1, w, hn, hw => by
    have hne : w ≠ [] := fun z => by rw [z] at hn; cases hn
    obtain ⟨F', e⟩ := up_head Td (TR.fl_up w) (fun a => TR.mem_fl Td hw) hne
    have hm : TR.lst (TR.firsts td w) ∈ w := ((TR.mem_firsts Td).mp (TR.lst_mem (TR.firsts_ne Td hne))).mem
    obtain ⟨r, e2⟩ := lw_head Td (n := n) (w := w.erase (TR.lst (TR.firsts td w))) (by rw [List.length_erase_of_mem hm]; omega) (TR.erase_lt hw _)
    refine ⟨r.map (TR.lst (TR.firsts td w) :: ·) ++ F'.flatMap fun c => (TR.lw td n (w.erase c)).map (c :: ·), ?_⟩
    show (TR.fl td w).flatMap _ = _
    rw [e, List.flatMap_cons, e2]
    rfl
def spOn : Sp := fun vs H Q _ => ∃ (g a : Addr) (L : List Nat) (T : List (List Nat)) (R : List (Addr × List Nat × List Nat)), vs = [.ref g, .ref a] ∧ Ground L T ∧ GAt H g L T ∧ H a = some (.lst (R.map fun e => V.ref e.1)) ∧ (∀ e ∈ R, H e.1 = some (.tup [tx e.2.1, tx e.2.2])) ∧
  (∀ e ∈ R, e.2.1.length ≤ 60 ∧ e.2.2.length ≤ 60 ∧ ∀ c ∈ e.2.2, c ∈ L) ∧ R.length ≤ 800 ∧
  ∀ (b : Addr) (R' : List (Addr × List Nat × List Nat)) (H' : Hp), Same H H' → H' b = some (.lst (R'.map fun e => V.ref e.1)) → (∀ e ∈ R', H' e.1 = some (.tup [tx e.2.1, tx e.2.2])) → R'.map (·.2) = TR.nxt (tiedB T) (R.map (·.2)) → Q (.ref b) H'
def spWords : Sp := fun vs H Q _ => ∃ (g : Addr) (L : List Nat) (T : List (List Nat)) (w : List Nat), vs = [.ref g, tx w] ∧ Ground L T ∧ GAt H g L T ∧ (∀ c ∈ w, c ∈ L) ∧ w.length ≤ 6 ∧
  ∀ (p : Addr) (H' : Hp), Same H H' → H' p = some (.tup ((TR.lw (tiedB T) w.length w).map tx)) → Q (.ref p) H'
theorem ltCps_lt : ∀ l m : List Nat, Spec.ltCps l m = true ↔ l < m
  | [], [] => by simp [Spec.ltCps]
  | [], _ :: _ => by simp [Spec.ltCps]
  | _ :: _, [] => by simp [Spec.ltCps]
  | a :: r, b :: t => by
    rw [List.cons_lt_cons_iff, ← ltCps_lt r t]
    simp [Spec.ltCps]
theorem risingS_up : ∀ (l : List Str) (p : Str), risingS p l = true → (∀ c ∈ l, ¬ c.cps.toList < p.cps.toList) ∧ l.Pairwise (fun x y => ¬ y.cps.toList < x.cps.toList)
  | [], _, _ => ⟨(fun _ h => nomatch h), List.Pairwise.nil⟩
  | x :: l, p, h => by
    have h' : (!Spec.ltCps x.cps.toList p.cps.toList && risingS x l) = true := h
    rw [Bool.and_eq_true] at h'
    obtain ⟨i1, i2⟩ := risingS_up l x h'.2
    have hpx : ¬ x.cps.toList < p.cps.toList := fun z => by
      have q := h'.1
      rw [(ltCps_lt _ _).mpr z] at q
      cases q
    refine ⟨fun c hc => ?_, List.pairwise_cons.mpr ⟨i1, i2⟩⟩
    rcases List.mem_cons.mp hc with z | z
    · rw [z]
      exact hpx
    · exact fun y => List.le_trans (l₁ := p.cps.toList) (l₂ := x.cps.toList) (l₃ := c.cps.toList) hpx (i1 c z) y
theorem sorted_is {W : List (List Nat)} {ss : List Str} (up : W.Pairwise (· < ·)) (hp : ss.Perm (W.map S)) (hs : sortedS ss = true) : ss = W.map S := by
  have h1 : ss.Pairwise (fun x y => ¬ y.cps.toList < x.cps.toList) := by
    cases ss with
    | nil => exact List.Pairwise.nil
    | cons x l =>
      obtain ⟨i1, i2⟩ := risingS_up l x hs
      exact List.pairwise_cons.mpr ⟨i1, i2⟩
  have h2 : (W.map S).Pairwise (fun x y => ¬ y.cps.toList < x.cps.toList) := by
    rw [List.pairwise_map]
    refine up.imp fun {a b} z y => ?_
    rw [S_cps, S_cps] at y
    exact List.lt_irrefl _ (List.lt_trans z y)
  refine hp.eq_of_pairwise (fun a b ha hb x y => ?_) h1 h2
  obtain ⟨u, _, rfl⟩ := List.mem_map.mp (hp.mem_iff.mp ha)
  obtain ⟨v, _, rfl⟩ := List.mem_map.mp hb
  rw [S_cps, S_cps] at x y
  rw [List.le_antisymm (as := u) (bs := v) x y]
theorem set_perm {W : List (List Nat)} {ss : List Str} (up : W.Pairwise (· < ·)) (nd : ss.Nodup) (hm : ∀ y, y ∈ ss ↔ y ∈ W.map S) : ss.Perm (W.map S) := by
  refine (List.perm_ext_iff_of_nodup nd ?_).mpr hm
  rw [List.nodup_iff_pairwise_ne, List.pairwise_map]
  exact up.imp fun {a b} z y => by rw [S_inj y] at z; exact List.lt_irrefl _ z
theorem nodup_S {W : List (List Nat)} (up : W.Pairwise (· < ·)) : (W.map S).Nodup := by
  rw [List.nodup_iff_pairwise_ne, List.pairwise_map]
  exact up.imp fun {a b} z y => by rw [S_inj y] at z; exact List.lt_irrefl _ z
def TW (H : Hp) (C : List Nat) (v : V) : Prop := ∃ t, v = V.ref t ∧ H t = some (.tup [tx C, .bl true])
theorem paired_q {H : Hp} : ∀ {W : List (List Nat)} {ys : List V}, Paired (TW H) W ys → ∃ q : List (Addr × Str), ys = q.map (fun e => V.ref e.1) ∧ q.map (·.2) = W.map S ∧ ∀ e ∈ q, H e.1 = some (.tup [.str e.2, .bl true])
  | _, _, .nil => ⟨[], rfl, rfl, fun _ z => nomatch z⟩
  | C :: W, _, .cons ⟨t, e0, ht⟩ r => by
    obtain ⟨q, e1, e2, e3⟩ := paired_q r
    refine ⟨(t, S C) :: q, by rw [e0, e1]; rfl, by rw [List.map_cons, e2]; rfl, fun e he => ?_⟩
    rcases List.mem_cons.mp he with z | z
    · rw [z]
      exact ht
    · exact e3 e z
def dW (W : List (List Nat)) : List (Key × V) := W.map fun C => (Sum.inr (S C), V.bl true)
theorem dW_of {W : List (List Nat)} {q : List (Addr × Str)} (h : q.map (·.2) = W.map S) : (q.map fun e => ((Sum.inr e.2 : Key), V.bl true)) = dW W := by
  have := congrArg (List.map fun x : Str => ((Sum.inr x : Key), V.bl true)) h
  rw [List.map_map, List.map_map] at this
  exact this
theorem dW_some {u : List Nat} : ∀ {W : List (List Nat)}, u ∈ W → valV (dW W) (Sum.inr (S u)) = some (V.bl true)
  | [], h => nomatch h
  | C :: W, h => by
    show valV ((Sum.inr (S C), V.bl true) :: dW W) _ = _
    by_cases e : C = u
    · rw [valV_pos (by rw [e])]
    · rw [valV_neg (wkey_ne e)]
      rcases List.mem_cons.mp h with z | z
      · exact absurd z.symm e
      · exact dW_some z
theorem cut_two {v : List Nat} {k : Nat} (h : k + 1 < v.length) : ∃ x a b y, v = x ++ a :: b :: y ∧ x.length = k := by
  refine ⟨v.take k, v[k], v[k + 1], v.drop (k + 2), ?_, by rw [List.length_take]; omega⟩
  have e1 := (List.take_append_drop k v).symm
  rw [List.drop_eq_getElem_cons (by omega : k < v.length), List.drop_eq_getElem_cons h] at e1
  exact e1
theorem get_map {α β : Type} {l : List α} {f : α → β} {i : Nat} {x : β} (hx : (l.map f)[i]? = some x) : ∃ a, l[i]? = some a ∧ x = f a := by
  rw [List.getElem?_map] at hx
  cases e : l[i]? with
  | none => rw [e] at hx; cases hx
  | some a => rw [e] at hx; exact ⟨a, rfl, (Option.some.inj hx).symm⟩
def spWhole : Sp := fun vs H Q _ => ∃ i : Int, vs = [.int i] ∧ ∀ H', Same H H' → Q (.bl true) H'
end HW
namespace K10
open PySem L2 HW PyProof.Rows
section
variable {P : Program} {w : World} {K : PySem.W.Frag} {mg : Str → Option Value} {base : Heap}
def top (i : Nat) : Stmt := PySem.Challenge.pw_heapwords_k10_words_of_a_heap.main.body.getD i (.Pass ⟨0, 0, 0, 0⟩)
abbrev sCell : Stmt := top 15
theorem scCell : FnScope ["_law_script", "_law_k"] ["_law_script", "_law_k"] (defScope sCell) := ⟨rfl, rfl, rfl, by decide +kernel, rfl, by decide +kernel, by decide +kernel⟩
theorem ok_Cell {f : Addr} {fd : FuncData} (F : Fun K "_law_cell" "_law_cell" sCell f fd)
    (m_len : mg "len" = none)   : FnOk P w K mg base CX0 1 f fd ["_law_script", "_law_k"] (spCell K) := by
  refine F.okQ scCell (fun vs H Q E h => ?_) (fun cdv A outer s H vs Q E hr h => ?_)
  · obtain ⟨a, ns, k, rfl, _⟩ := h
    rfl
  obtain ⟨a, ns, k, rfl, hS, h0, q⟩ := h
  refine ⟨_, (qss_cons (qs_if (qt_cmp op_lt (qv 1) (qe_callB (r := rLenSeq K) c_len_seq rfl m_len PySem.boot_len (qa_cons (qv 0) qa_nil)) (nomark _)) (qss_one (qs_ret (qe_ix (r := rIxL K) ix_list (qv 0) (qv 1)))) qss_nil)
    (qss_one (qs_ret qe_int))), ?_⟩
  refine ⟨_, rfl, _, rfl, a, _, rfl, .inl hS, _, _, rfl, rfl, _, rfl, ?_⟩
  refine ite2 (fun c => ?_) (fun c => ?_)
  · have c' : k < (((ns.map V.int).length : Nat) : Int) := of_decide_eq_true c
    rw [List.length_map] at c'
    have hk : k.toNat < ns.length := by omega
    have ek : k = ((k.toNat : Nat) : Int) := by omega
    have hq : atI (ns.map V.int) ((k.toNat : Nat) : Int) = some (.int ns[k.toNat]) := atI_nat (by rw [List.getElem?_map, List.getElem?_eq_getElem hk] <;> rfl)
    rw [← ek] at hq
    rw [List.getElem?_eq_getElem hk] at q
    exact ⟨_, rfl, _, rfl, a, _, k, _, rfl, rfl, hS, hq, q⟩
  · have c' : ¬ k < (((ns.map V.int).length : Nat) : Int) := of_decide_eq_false (Bool.eq_false_iff.mpr c)
    rw [List.length_map] at c'
    have hk : ns[k.toNat]? = none := List.getElem?_eq_none (by omega)
    rw [hk] at q
    exact q
abbrev sMix : Stmt := top 16
theorem scMix : FnScope ["_law_cell_here", "_law_prime", "_law_many"] ["_law_cell_here", "_law_prime", "_law_many"] (defScope sMix) := ⟨rfl, rfl, rfl, by decide +kernel, rfl, by decide +kernel, by decide +kernel⟩
theorem ok_Mix {f : Addr} {fd : FuncData} (F : Fun K "_law_mix" "_law_mix" sMix f fd)
       : FnOk P w K mg base CX0 1 f fd ["_law_cell_here", "_law_prime", "_law_many"] spMix := by
  refine F.okQ scMix (fun vs H Q E h => ?_) (fun cdv A outer s H vs Q E hr h => ?_)
  · obtain ⟨c, p, n, rfl, _⟩ := h
    rfl
  obtain ⟨c, p, n, rfl, hp, hn, q⟩ := h
  refine ⟨_, (qss_one (qs_ret (qe_op op_mod (qe_op op_mod (qe_op op_mul (qv 0) qe_int) (qv 1)) (qv 2)))), ?_⟩
  exact ⟨_, rfl, _, _, rfl, rfl, .inr ⟨by decide, by decide⟩, _, rfl, _, _, rfl, rfl, hp, _, rfl, _, _, rfl, rfl, hn, q⟩
abbrev sLetters : Stmt := top 17
theorem scLetters : FnScope ["_law_script", "_law_signs", "_law_seed", "_law_found", "_law_k"] ["_law_script"] (defScope sLetters) := ⟨rfl, rfl, rfl, by decide +kernel, rfl, by decide +kernel, by decide +kernel⟩
theorem ok_Letters {f : Addr} {fd : FuncData} (F : Fun K "_law_letters" "_law_letters" sLetters f fd)
    {fCell : Addr} {fdCell : FuncData} (GCell : FnOk P w K mg base CX0 1 fCell fdCell ["_law_script", "_law_k"] (spCell K)) (bCell : Binds K fdCell ["_law_script", "_law_k"] []) (kCell : PySem.W.keepIn K (.ref fCell) = true) (mCell : mg "_law_cell" = some (.ref fCell))
    {fMix : Addr} {fdMix : FuncData} (GMix : FnOk P w K mg base CX0 1 fMix fdMix ["_law_cell_here", "_law_prime", "_law_many"] spMix) (bMix : Binds K fdMix ["_law_cell_here", "_law_prime", "_law_many"] []) (kMix : PySem.W.keepIn K (.ref fMix) = true) (mMix : mg "_law_mix" = some (.ref fMix))
    (m_len : mg "len" = none) (m_list : mg "list" = none) (m_range : mg "range" = none) (m_sorted : mg "sorted" = none)   : FnOk P w K mg base CX0 2 f fd ["_law_script"] (spLetters K) := by
  refine F.okQ scLetters (fun vs H Q E h => ?_) (fun cdv A outer s H vs Q E hr h => ?_)
  · obtain ⟨a, ns, rfl, _⟩ := h
    rfl
  obtain ⟨a, ns, rfl, hS, q⟩ := h
  refine ⟨_, (qss_cons (qs_set (i := 1) scLetters.nd rfl (Or.inl rfl) (qe_callTy (call_listS rfl) rfl m_list (by decide +kernel) (qa_cons qe_bump qa_nil)))
    (qss_cons (qs_set (i := 2) scLetters.nd rfl (Or.inl rfl) (qe_call GCell hr rfl mCell kCell bCell .nil pass0 (qa_cons (qv 0) (qa_cons qe_int qa_nil))))
    (qss_cons (qs_set (i := 3) scLetters.nd rfl (Or.inl rfl) (qe_lst qa_nil))
    (qss_cons (qs_for PassesOwn.never rfl (qi_range1 rfl m_range (qa_cons (qe_op op_add qe_int (qe_call GMix hr rfl mMix kMix bMix .nil pass0 (qa_cons (qv 2) (qa_cons qe_int (qa_cons qe_int qa_nil))))) qa_nil)) (qg_name (i := 4) scLetters.nd rfl (Or.inl rfl))
      (qss_one (qs_expr (qe_bm K PySem.F.plainAttrs_list PySem.F.slot_list_append PySem.F.type_list_append mt_append (qv 3) (qa_cons (qe_bm K PySem.F.plainAttrs_list PySem.F.slot_list_pop PySem.F.type_list_pop mt_popAt (qv 1) (qa_cons (qe_call GMix hr rfl mMix kMix bMix .nil pass0 (qa_cons (qe_op op_add (qv 2) (qe_op op_mul qe_int (qv 4))) (qa_cons qe_int (qa_cons (qe_callB (r := rLenSeq K) c_len_seq rfl m_len PySem.boot_len (qa_cons (qv 1) qa_nil)) qa_nil)))) qa_nil)) qa_nil)))))
    (qss_one (qs_ret (qe_bm K (r := rJoin K) PySem.F.plainAttrs_str PySem.F.slot_str_join PySem.F.type_str_join mt_join qe_str (qa_cons (qe_callB (r := rSortedS K) c_sorted rfl m_sorted boot_sorted (qa_cons (qv 3) qa_nil)) qa_nil)))))))), ?_⟩
  refine fun n0 hc0 hn0 => ?_
  have s00 := same_bump hc0
  replace q := fun L H' (sx : Same (H.bump n0) H') hL => q L H' (s00.trans sx) (Nat.le_trans hn0 sx.ck) hL
  replace hS := s00.seq hS
  clear s00
  revert q hS
  generalize H.bump n0 = H
  intro q hS
  refine ⟨_, rfl, by rw [e_abc, S_len]; exact small (by decide), fun sgA hsg => ?_⟩
  rw [e_abc, signsV_S]
  have s1 : Same H (upd H sgA (.lst (abc.map chV))) := same_new hsg _
  refine ⟨_, rfl, a, ns, 0, rfl, s1.seq hS, Int.le_refl 0, ?_⟩
  generalize (ns[(0 : Int).toNat]?).getD 0 = seed
  refine ⟨by show 0 ≤ sizeLine; omega, fun fdA hfd => ?_⟩
  have nsf : sgA ≠ fdA := fun z => by subst z; rw [upd_same] at hfd; cases hfd
  have s2 : Same H (upd (upd H sgA (.lst (abc.map chV))) fdA (.lst [])) := s1.trans (same_new hfd _)
  have hfd0 : H fdA = none := s1.free hfd
  obtain ⟨b0, b1⟩ := mix_bounds seed 9973 5 (by decide)
  refine ⟨_, rfl, seed, 9973, 5, rfl, by decide, by decide, _, _, rfl, rfl, _, rfl, by omega, by omega, ?_⟩
  generalize hm : seed * 48271 % 9973 % 5 = m at b0 b1
  refine for_range (lo := 0) (n := (1 + m).toNat) (fun i σ H2 => ∃ (sg fd : List Nat) (v : Option V), σ = [some (.ref a), some (.ref sgA), some (.int seed), some (.ref fdA), v] ∧ Same H H2 ∧ H2 sgA = some (.lst (sg.map chV)) ∧ H2 fdA = some (.lst (fd.map chV)) ∧ (sg ++ fd).Perm abc ∧ fd.length = i)
    ⟨abc, [], none, rfl, s2, by rw [upd_ne nsf, upd_same], upd_same, by rw [List.append_nil], rfl⟩ ?_ ?_
  · rintro i σ H2 hi ⟨sg, fd', v, rfl, sm, h1, h2, hp, hl⟩
    have hlen : sg.length + fd'.length = 26 := by
      have := hp.length_eq
      rw [List.length_append] at this
      exact this
    have hsl : (sg.map chV).length = sg.length := List.length_map _
    obtain ⟨c0, c1⟩ := mix_bounds (seed + 7 * (0 + (i : Int))) 9967 ((sg.length : Nat) : Int) (by omega)
    show ∃ v, _ ∧ _
    refine ⟨_, rfl, .inl ⟨rfl, _, SqL.of h2⟩, _, rfl, .inl ⟨rfl, _, SqL.of h1⟩, _, rfl, _, rfl, _, _, rfl, rfl, .inl ⟨by decide, by decide⟩, _, _, rfl, rfl, _, rfl, sgA, _, rfl, .inl (SqL.of h1), _, _, _, rfl, by decide, by rw [hsl]; omega, ?_⟩
    rw [hsl]
    generalize hj : (seed + 7 * (0 + (i : Int))) * 48271 % 9967 % ((sg.length : Nat) : Int) = j at c0 c1
    have hjn : j.toNat < sg.length := by omega
    have ej : seqIndex? j (sg.map chV).length = some j.toNat := by rw [hsl]; exact (ixN_seq (n := sg.length) (i := j) (j := j.toNat) (by unfold ixN; rw [if_pos c0, if_pos c1])).1
    refine ⟨sgA, _, j, j.toNat, chV sg[j.toNat], rfl, rfl, h1, by omega, by omega, ej, by rw [List.getElem?_map, List.getElem?_eq_getElem hjn] <;> rfl, ?_⟩
    have h2' : upd H2 sgA (.lst ((sg.map chV).eraseIdx j.toNat)) fdA = some (.lst (fd'.map chV)) := by rw [upd_ne nsf.symm]; exact h2
    refine ⟨fdA, _, _, rfl, rfl, h2', by rw [List.length_map]; exact Nat.lt_of_lt_of_le (by omega : fd'.length < 100) (small (by decide)), ?_⟩
    refine ⟨sg.eraseIdx j.toNat, fd' ++ [sg[j.toNat]], _, rfl, ⟨fun b o z => ?_, sm.ck⟩, ?_, ?_, ?_, ?_⟩
    · have n1 : b ≠ sgA := ne_of_none z hsg
      have n2 : b ≠ fdA := ne_of_none z hfd0
      rw [upd_ne n2, upd_ne n1]
      exact sm b o z
    · rw [upd_ne nsf, upd_same]
      congr 2
      exact erase_map _ _ _
    · rw [upd_same, List.map_append]
      rfl
    · have q1 : (sg.eraseIdx j.toNat ++ [sg[j.toNat]]).Perm sg := pop_perm (List.getElem?_eq_getElem hjn)
      have q2 : (sg.eraseIdx j.toNat ++ (fd' ++ [sg[j.toNat]])).Perm (sg.eraseIdx j.toNat ++ ([sg[j.toNat]] ++ fd')) := List.Perm.append_left _ List.perm_append_comm
      refine q2.trans ?_
      rw [← List.append_assoc]
      exact (q1.append_right fd').trans hp
    · rw [List.length_append, hl]
      rfl
  · rintro σ H2 ⟨sg, fd', v, rfl, sm, h1, h2, hp, hl⟩
    have hnd : (sg ++ fd').Nodup := hp.nodup_iff.mpr abc_nodup
    have nd : fd'.Nodup := (List.nodup_append.mp hnd).2.1
    refine ⟨rfl, _, rfl, fdA, fd'.map (fun c => S [c]), rfl, SqL.of (by rw [h2, List.map_map]; rfl), by rw [List.length_map]; omega, fun l ss' hl' hpm hso => ?_⟩
    obtain ⟨L, e, hL, hup⟩ := sorted_codes hpm hso nd
    subst e
    have hLl : L.length = fd'.length := hL.length_eq
    rw [e_empty]
    refine ⟨S [], l, L.map (fun c => S [c]), rfl, rfl, SqL.of upd_same, ?_, ?_⟩
    · rw [sum_signs, S_nil, Nat.mul_zero]
      omega
    · rw [join_signs]
      refine q L _ (sm.trans (same_new hl' _)) ⟨by omega, by omega, hup, fun c hc => ?_⟩
      exact abc_az c (hp.mem_iff.mp (List.mem_append_right _ (hL.mem_iff.mp hc)))
abbrev sGround : Stmt := top 18
theorem scGround : FnScope ["_law_script", "_law_letters_here", "_law_share", "_law_ties", "_law_k", "_law_one", "_law_n", "_law_other"] ["_law_script"] (defScope sGround) := ⟨rfl, rfl, rfl, by decide +kernel, rfl, by decide +kernel, by decide +kernel⟩
theorem ok_Ground {f : Addr} {fd : FuncData} (F : Fun K "_law_ground" "_law_ground" sGround f fd)
    {fLetters : Addr} {fdLetters : FuncData} (GLetters : FnOk P w K mg base CX0 2 fLetters fdLetters ["_law_script"] (spLetters K)) (bLetters : Binds K fdLetters ["_law_script"] []) (kLetters : PySem.W.keepIn K (.ref fLetters) = true) (mLetters : mg "_law_letters" = some (.ref fLetters))
    {fCell : Addr} {fdCell : FuncData} (GCell : FnOk P w K mg base CX0 1 fCell fdCell ["_law_script", "_law_k"] (spCell K)) (bCell : Binds K fdCell ["_law_script", "_law_k"] []) (kCell : PySem.W.keepIn K (.ref fCell) = true) (mCell : mg "_law_cell" = some (.ref fCell))
    {fMix : Addr} {fdMix : FuncData} (GMix : FnOk P w K mg base CX0 1 fMix fdMix ["_law_cell_here", "_law_prime", "_law_many"] spMix) (bMix : Binds K fdMix ["_law_cell_here", "_law_prime", "_law_many"] []) (kMix : PySem.W.keepIn K (.ref fMix) = true) (mMix : mg "_law_mix" = some (.ref fMix))
    (m_enumerate : mg "enumerate" = none) (m_tuple : mg "tuple" = none)   : FnOk P w K mg base CX0 3 f fd ["_law_script"] (spGround K) := by
  refine F.okQ scGround (fun vs H Q E h => ?_) (fun cdv A outer s H vs Q E hr h => ?_)
  · obtain ⟨a, ns, rfl, _⟩ := h
    rfl
  obtain ⟨a, ns, rfl, hS, q⟩ := h
  have hr1 : Room 1 _ := hr.mono (by decide)
  refine ⟨_, (qss_cons (qs_set (i := 1) scGround.nd rfl (Or.inl rfl) (qe_call GLetters hr rfl mLetters kLetters bLetters .nil pass0 (qa_cons (qv 0) qa_nil)))
    (qss_cons (qs_set (i := 2) scGround.nd rfl (Or.inl rfl) (qe_call GMix hr1 rfl mMix kMix bMix .nil pass0 (qa_cons (qe_call GCell hr1 rfl mCell kCell bCell .nil pass0 (qa_cons (qv 0) (qa_cons qe_int qa_nil))) (qa_cons qe_int (qa_cons qe_int qa_nil)))))
    (qss_cons (qs_set (i := 3) scGround.nd rfl (Or.inl rfl) (qe_lst qa_nil))
    (qss_cons (qs_for PassesOwn.never rfl (qi_enumS rfl m_enumerate (qa_cons (qv 1) qa_nil)) (qg_tup K rfl (qgs_cons (qg_name (i := 4) scGround.nd rfl (Or.inl rfl)) (qgs_cons (qg_name (i := 5) scGround.nd rfl (Or.inl rfl)) qgs_nil)))
      (qss_one (qs_for PassesOwn.never rfl (qi_enumS rfl m_enumerate (qa_cons (qe_slice sl_str (qv 1) (qo_some (qe_op op_add (qv 4) qe_int)) qo_none) qa_nil)) (qg_tup K rfl (qgs_cons (qg_name (i := 6) scGround.nd rfl (Or.inl rfl)) (qgs_cons (qg_name (i := 7) scGround.nd rfl (Or.inl rfl)) qgs_nil)))
      (qss_one (qs_if (qt_cmp op_lt (qe_call GMix hr1 rfl mMix kMix bMix .nil pass0 (qa_cons (qe_op op_add (qe_op op_add (qe_call GCell hr1 rfl mCell kCell bCell .nil pass0 (qa_cons (qv 0) (qa_cons qe_int qa_nil))) (qe_op op_mul qe_int (qv 4))) (qe_op op_mul qe_int (qv 6))) (qa_cons qe_int (qa_cons qe_int qa_nil)))) (qv 2) (nomark _)) (qss_one (qs_expr (qe_bm K PySem.F.plainAttrs_list PySem.F.slot_list_append PySem.F.type_list_append mt_append (qv 3) (qa_cons (qe_op op_add_str (qv 5) (qv 7)) qa_nil)))) qss_nil)))))
    (qss_one (qs_ret (qe_tup (qa_cons (qv 1) (qa_cons (qe_callTy (r := rTupOf K) c_tuple_of rfl m_tuple (by decide +kernel) (qa_cons (qv 3) qa_nil)) qa_nil))))))))), ?_⟩
  refine ⟨_, rfl, a, ns, rfl, hS, fun L H1 s1 hk1 hL => ?_⟩
  replace q := fun L T g H' (sx : Same H1 H') G GA => q L T g H' (s1.trans sx) G GA
  have hS1 := s1.seq hS
  refine ⟨_, rfl, a, ns, 0, rfl, hS1, Int.le_refl 0, _, 9949, 6, rfl, by decide, by decide, ?_⟩
  generalize (ns[(0 : Int).toNat]?).getD 0 * 48271 % 9949 % 6 = share
  refine ⟨by show 0 ≤ sizeLine; omega, fun tA htA => ?_⟩
  have s2 : Same H1 (upd H1 tA (.lst [])) := same_new htA _
  have tfree  : H1 tA = none := htA
  have hl5 : L.length ≤ 5 := hL.l5
  refine ⟨_, rfl, _, rfl, for_enumS (x := S L) (fun i σ H2 => ∃ (T : List (List Nat)) (v4 v5 v6 v7 : Option V), σ = [some (.ref a), some (tx L), some (.int share), some (.ref tA), v4, v5, v6, v7] ∧ Same H1 H2 ∧ H2 tA = some (.lst (T.map tx)) ∧ Sofar L i 0 T)
    ⟨[], none, none, none, none, rfl, s2, upd_same, ⟨fun _ z => (nomatch z), List.Pairwise.nil, Nat.zero_le _⟩⟩ ?_ ?_⟩
  · rintro i c p σ H2 hc hp ⟨T, v4, v5, v6, v7, rfl, sm, hT, so⟩
    have hc' : L[i]? = some c := by simpa using hc
    have hi : i < L.length := (List.getElem?_eq_some_iff.mp hc').1
    have sm3 : Same H1 (upd H2 p (.tup [.int i, .str ⟨#[c]⟩])) := sm.trans (same_new hp _)
    have hT3 : upd H2 p (.tup [.int i, .str ⟨#[c]⟩]) tA = some (.lst (T.map tx)) := by rw [upd_ne (ne_of_none hT hp)]; exact hT
    refine ⟨p, _, rfl, SqT.of upd_same, rfl, _, _, rfl, _, _, rfl, rfl, ?_⟩
    refine ⟨_, rfl, _, rfl, _, _, rfl, rfl, _, rfl, S L, rfl, by rw [S_len]; exact small (by omega), _, rfl, ?_⟩
    have ei : (i : Int) + 1 = ((i + 1 : Nat) : Int) := by omega
    rw [ei, slice_from]
    refine for_enumS (x := S (L.drop (i + 1))) (fun n σ H4 => ∃ (T : List (List Nat)) (v6 v7 : Option V), σ = [some (.ref a), some (tx L), some (.int share), some (.ref tA), some (.int i), some (chV c), v6, v7] ∧ Same H1 H4 ∧ H4 tA = some (.lst (T.map tx)) ∧ Sofar L i n T)
      ⟨T, v6, v7, rfl, sm3, hT3, so⟩ ?_ ?_
    · rintro n d p2 σ H4 hd hp2 ⟨T4, w6, w7, rfl, sm4, hT4, so4⟩
      have hd' : (L.drop (i + 1))[n]? = some d := by simpa using hd
      have hnl : n < (L.drop (i + 1)).length := (List.getElem?_eq_some_iff.mp hd').1
      rw [List.length_drop] at hnl
      have sm5 : Same H1 (upd H4 p2 (.tup [.int n, .str ⟨#[d]⟩])) := sm4.trans (same_new hp2 _)
      have hT5 : upd H4 p2 (.tup [.int n, .str ⟨#[d]⟩]) tA = some (.lst (T4.map tx)) := by rw [upd_ne (ne_of_none hT4 hp2)]; exact hT4
      have htl := so4.tl
      refine ⟨p2, _, rfl, SqT.of upd_same, rfl, _, _, rfl, _, _, rfl, rfl, ?_⟩
      refine ⟨_, rfl, a, ns, 1, rfl, sm5.seq hS1, by decide, _, rfl, _, _, rfl, rfl, .inl ⟨by decide, by decide⟩, _, _, rfl, rfl, _, rfl, _, _, rfl, rfl, .inl ⟨by decide, by decide⟩, _, _, rfl, rfl, _, 9941, 6, rfl, by decide, by decide, _, rfl, _, _, rfl, rfl, _, rfl, ?_⟩
      refine ite2 (fun _ => ?_) (fun _ => ?_)
      · refine ⟨_, rfl, .inl ⟨rfl, _, SqL.of hT5⟩, _, rfl, _, rfl, _, _, rfl, rfl, by rw [S_len, S_len]; exact small (by show 2 ≤ 100000; decide), tA, _, _, rfl, rfl, hT5, by rw [List.length_map]; exact Nat.lt_of_le_of_lt htl (Nat.lt_of_lt_of_le (by omega : 5 * i + n < 100) (small (by decide))), ?_⟩
        refine ⟨T4 ++ [[c, d]], _, _, rfl, ⟨fun b o z => ?_, sm5.ck⟩, ?_, so4.add hL.up hc' hd'⟩
        · rw [upd_ne (ne_of_none z tfree)]
          exact sm5 b o z
        · rw [upd_same, List.map_append]
          have e : S [c] ++ S [d] = S [c, d] := S_app [c] [d]
          show some (HO.lst (T4.map tx ++ [V.str (S [c] ++ S [d])])) = _
          rw [e]
          rfl
      · exact ⟨T4, _, _, rfl, sm5, hT5, so4.more⟩
    · rintro σ H4 ⟨T4, w6, w7, rfl, sm4, hT4, so4⟩
      have el : (S (L.drop (i + 1))).length ≤ 5 := by rw [S_len, List.length_drop]; omega
      exact ⟨T4, _, _, _, _, rfl, sm4, hT4, so4.next el hi⟩
  · rintro σ H2 ⟨T, v4, v5, v6, v7, rfl, sm, hT, so⟩
    refine ⟨_, rfl, _, rfl, tA, _, rfl, .inl ⟨SqL.of hT, fun tt htt => ⟨by show 2 ≤ sizeLine; exact small (by decide), fun g hg => ?_⟩⟩⟩
    have ng : tt ≠ g := fun z => by subst z; rw [upd_same] at hg; cases hg
    rw [S_len] at so
    refine q L T g _ (sm.trans ((same_new htt _).trans (same_new hg _))) ⟨hL, fun z hz => ?_, so.tu, by have := so.tl; omega⟩ ⟨tt, upd_same, by rw [upd_ne ng, upd_same], Nat.le_trans hk1 sm.ck⟩
    obtain ⟨x, y, e, h1, h2, h3⟩ := so.ti z hz
    refine ⟨x, y, e, h1, ?_, h2⟩
    rcases h3 with y' | y'
    · exact List.mem_of_mem_take y'
    · exact List.mem_of_getElem? y'.1
abbrev sWord : Stmt := top 19
theorem scWord : FnScope ["_law_letters_here", "_law_seed", "_law_most", "_law_size", "_law_cells"] ["_law_letters_here", "_law_seed", "_law_most"] (defScope sWord) := ⟨rfl, rfl, rfl, by decide +kernel, rfl, by decide +kernel, by decide +kernel⟩
theorem ndWord_0 : (["_law_k", "_law_seed"] : List Str).Nodup := by decide +kernel
theorem ndWord_2 : (["_law_cell_here", "_law_letters_here"] : List Str).Nodup := by decide +kernel
theorem ok_Word {f : Addr} {fd : FuncData} (F : Fun K "_law_word" "_law_word" sWord f fd)
    {fMix : Addr} {fdMix : FuncData} (GMix : FnOk P w K mg base CX0 1 fMix fdMix ["_law_cell_here", "_law_prime", "_law_many"] spMix) (bMix : Binds K fdMix ["_law_cell_here", "_law_prime", "_law_many"] []) (kMix : PySem.W.keepIn K (.ref fMix) = true) (mMix : mg "_law_mix" = some (.ref fMix))
    (m_len : mg "len" = none) (m_range : mg "range" = none)   : FnOk P w K mg base CX0 2 f fd ["_law_letters_here", "_law_seed", "_law_most"] spWord := by
  refine F.okQ scWord (fun vs H Q E h => ?_) (fun cdv A outer s H vs Q E hr h => ?_)
  · obtain ⟨L, seed, most, rfl, _⟩ := h
    rfl
  obtain ⟨L, seed, most, rfl, hL1, hL2, hm0, hm1, q⟩ := h
  refine ⟨_, (qss_cons (qs_set (i := 3) scWord.nd rfl (Or.inl rfl) (qe_call GMix hr rfl mMix kMix bMix .nil pass0 (qa_cons (qv 1) (qa_cons qe_int (qa_cons (qe_op op_add (qv 2) qe_int) qa_nil)))))
    (qss_cons (qs_setComp (i := 4) (N := ["_law_k", "_law_seed"]) (k := 1) (fr := [1]) scWord.nd rfl (Or.inl rfl) (by kernel_rfl) rfl (qi_range1 rfl m_range (qa_cons (qv 3) qa_nil)) (fun _ _ _ _ _ => qg_name (i := 0) ndWord_0 rfl (Or.inl rfl)) (fun _ _ _ _ _ => qts_nil) (fun _ _ _ _ _ => (qe_op op_add (qv 1) (qe_op op_mul qe_int (qv 0)))) rfl)
    (qss_one (qs_ret (qe_bm K (r := rJoin K) PySem.F.plainAttrs_str PySem.F.slot_str_join PySem.F.type_str_join mt_join qe_str (qa_cons (qe_comp (N := ["_law_cell_here", "_law_letters_here"]) (k := 1) (fr := [0]) (by kernel_rfl) rfl (qi_list K (qv 4)) (fun _ _ _ _ _ => qg_name (i := 0) ndWord_2 rfl (Or.inl rfl)) (fun _ _ _ _ _ => qts_nil) (fun _ _ _ _ _ => (qe_ix ix_str (qv 1) (qe_call GMix hr rfl mMix kMix bMix .nil pass0 (qa_cons (qv 0) (qa_cons qe_int (qa_cons (qe_callB call_len_str rfl m_len PySem.boot_len (qa_cons (qv 1) qa_nil)) qa_nil))))))) qa_nil)))))), ?_⟩
  obtain ⟨b0, b1⟩ := mix_bounds seed 9931 (most + 1) (by omega)
  refine ⟨_, rfl, _, rfl, _, _, rfl, rfl, seed, 9931, most + 1, rfl, by decide, by omega, ?_⟩
  generalize hz : seed * 48271 % 9931 % (most + 1) = size at b0 b1
  refine ⟨_, rfl, size, rfl, by omega, by omega, fun D hD => ?_⟩
  refine comp_map (fr := [1]) (yields_range (lo := 0) (n := size.toNat)) hD (by rw [rangeV_length]; exact small (by omega)) (fun _ => true) (fun v => match v with | .int k => .int (seed + 13 * k) | x => x) (fun i x H' Qb hx sm k => k H' (Same.refl _)) (fun i x H' Qv hx _ sm k => ?_) (fun H1 s1 hD1 => ?_)
  · have hx' : ∃ j : Int, x = .int j := by
      unfold rangeV at hx
      rw [List.getElem?_map] at hx
      cases e : (List.range size.toNat)[i]? with
      | none => rw [e] at hx; cases hx
      | some j => rw [e] at hx; exact ⟨_, (Option.some.inj hx).symm⟩
    obtain ⟨j, rfl⟩ := hx'
    exact ⟨_, rfl, _, rfl, _, _, rfl, rfl, .inl ⟨by decide, by decide⟩, _, _, rfl, rfl, k H' (Same.refl _)⟩
  have hcells : ∃ cs : List Int, (((rangeV 0 size.toNat).filter fun _ => true).map fun v => match v with | .int k => V.int (seed + 13 * k) | x => x) = cs.map V.int ∧ cs.length = size.toNat := by
    refine ⟨(List.range size.toNat).map fun (i : Nat) => seed + 13 * (0 + (i : Int)), ?_, by rw [List.length_map, List.length_range]⟩
    rw [filter_yes]
    unfold rangeV
    rw [List.map_map, List.map_map]
    rfl
  obtain ⟨cs, ecs, hcl⟩ := hcells
  rw [ecs] at hD1
  refine ⟨rfl, _, rfl, D, rfl, ⟨_, SqL.of hD1⟩, fun D2 hD2 => ?_⟩
  have hLpos : (0 : Int) < ((S L).length : Int) := by rw [S_len]; omega
  refine comp_map (fr := [0]) (yields_list (SqL.of hD1)) hD2 (by rw [List.length_map]; exact small (by omega)) (fun _ => true) (fun v => match v with | .int k => chV (L.getD (k * 48271 % 9929 % ((S L).length : Int)).toNat 0) | x => x) (fun i x H' Qb hx sm k => k H' (Same.refl _)) (fun i x H' Qv hx _ sm k => ?_) (fun H2 s2 hD3 => ?_)
  · have hx' : ∃ j : Int, x = .int j := by
      rw [List.getElem?_map] at hx
      cases e : cs[i]? with
      | none => rw [e] at hx; cases hx
      | some j => rw [e] at hx; exact ⟨_, (Option.some.inj hx).symm⟩
    obtain ⟨j, rfl⟩ := hx'
    obtain ⟨c0, c1⟩ := mix_bounds j 9929 ((S L).length : Int) hLpos
    have k' := k H' (Same.refl _)
    dsimp only at k'
    refine ⟨_, rfl, _, rfl, _, rfl, S L, rfl, by rw [S_len]; exact small (by omega), j, 9929, _, rfl, by decide, hLpos, ?_⟩
    generalize j * 48271 % 9929 % ((S L).length : Int) = t at c0 c1 k'
    rw [S_len] at c1
    have ht : t.toNat < L.length := by omega
    have et : t = ((t.toNat : Nat) : Int) := by omega
    have hq : atI (S L).cps.toList ((t.toNat : Nat) : Int) = some (L.getD t.toNat 0) := atI_nat (by rw [S_cps, List.getElem?_eq_getElem ht, List.getD_eq_getElem?_getD, List.getElem?_eq_getElem ht]; rfl)
    rw [← et] at hq
    exact ⟨S L, t, _, rfl, rfl, by rw [S_len]; exact small (by omega), hq, k'⟩
  have hws : (((cs.map V.int).filter fun _ => true).map fun v => match v with | .int k => chV (L.getD (k * 48271 % 9929 % ((S L).length : Int)).toNat 0) | x => x) = ((cs.map fun k => L.getD (k * 48271 % 9929 % ((S L).length : Int)).toNat 0).map fun c => S [c]).map V.str := by
    rw [filter_yes, List.map_map, List.map_map, List.map_map]
    rfl
  rw [hws] at hD3
  rw [e_empty]
  refine ⟨S [], D2, _, rfl, rfl, SqL.of hD3, ?_, ?_⟩
  · rw [sum_signs, S_nil, Nat.mul_zero, List.length_map]
    omega
  · rw [join_signs]
    refine q _ H2 (s1.trans s2) (fun c hc => ?_) (by rw [List.length_map]; omega)
    obtain ⟨k, _, e⟩ := List.mem_map.mp hc
    obtain ⟨c0, c1⟩ := mix_bounds k 9929 ((S L).length : Int) hLpos
    rw [S_len] at c1
    rw [← e, S_len, List.getD_eq_getElem?_getD, List.getElem?_eq_getElem (by rw [S_len] at c0; omega)]
    exact List.getElem_mem _
end
end K10
namespace K10
open PySem L2 HW PyProof.Rows
section
variable {P : Program} {w : World} {K : PySem.W.Frag} {mg : Str → Option Value} {base : Heap}
abbrev sLTied : Stmt := top 20
theorem scLTied : FnScope ["_law_ground_here", "_law_one", "_law_other"] ["_law_ground_here", "_law_one", "_law_other"] (defScope sLTied) := ⟨rfl, rfl, rfl, by decide +kernel, rfl, by decide +kernel, by decide +kernel⟩
theorem ok_LTied {f : Addr} {fd : FuncData} (F : Fun K "_law_tied" "_law_tied" sLTied f fd)
    (m_max : mg "max" = none) (m_min : mg "min" = none)   : FnOk P w K mg base CX0 1 f fd ["_law_ground_here", "_law_one", "_law_other"] spTied := by
  refine F.okQ scLTied (fun vs H Q E h => ?_) (fun cdv A outer s H vs Q E hr h => ?_)
  · obtain ⟨g, L, T, a, b, rfl, _⟩ := h
    rfl
  obtain ⟨g, L, T, a, b, rfl, G, ⟨t, h1, h2, _⟩, q⟩ := h
  refine ⟨_, (qss_one (qs_ret (qe_or (qe_cmp op_eq (qv 1) (qv 2) (nomark _)) (qe_one (qe_cmp (r := rIn K false) op_in_seq (qe_op op_add_str (qe_callB (call_minS rfl) rfl m_min (by decide +kernel) (qa_cons (qv 1) (qa_cons (qv 2) qa_nil))) (qe_callB (call_maxS rfl) rfl m_max (by decide +kernel) (qa_cons (qv 1) (qa_cons (qv 2) qa_nil)))) (qe_ix (r := rIxT K) ix_tup (qv 0) qe_int) rfl))))), ?_⟩
  refine ⟨_, rfl, _, rfl, rfl, _, rfl, ?_⟩
  unfold tiedB at q
  show if decide (chV a = chV b) = true then _ else _
  rw [ch_dec]
  cases e1 : decide (a = b) with
  | true =>
    rw [e1] at q
    exact iteT q
  | false =>
    rw [e1, Bool.false_or] at q
    refine iteF ⟨_, rfl, _, rfl, S [a], S [b], rfl, _, rfl, _, rfl, S [a], S [b], rfl, ?_⟩
    rw [min_ch, max_ch]
    refine ⟨_, _, rfl, rfl, by rw [S_len, S_len]; exact small (by show 2 ≤ 100000; decide), _, rfl, g, _, 1, .ref t, rfl, rfl, SqT.of h1, rfl, t, _, rfl, .inr (SqT.of h2), rfl, flat_tx T, ?_⟩
    show Q (.bl (inV (V.str (S [min a b] ++ S [max a b])) (T.map tx))) H
    rw [S_app, inV_tx]
    exact q
abbrev sLTold : Stmt := top 22
theorem scLTold : FnScope ["_law_ground_here", "_law_word_here", "_law_found", "_law_letters_here"] ["_law_ground_here", "_law_word_here"] (defScope sLTold) := ⟨rfl, rfl, rfl, by decide +kernel, rfl, by decide +kernel, by decide +kernel⟩
theorem ndLTold_1 : (["_law_letter", "_law_letters_here"] : List Str).Nodup := by decide +kernel
theorem ok_LTold {f : Addr} {fd : FuncData} (F : Fun K "_law_told" "_law_told" sLTold f fd)
    (m_list : mg "list" = none) (m_tuple : mg "tuple" = none)   : FnOk P w K mg base CX0 1 f fd ["_law_ground_here", "_law_word_here"] (spTold K) := by
  refine F.okQ scLTold (fun vs H Q E h => ?_) (fun cdv A outer s H vs Q E hr h => ?_)
  · obtain ⟨g, L, T, v, rfl, _⟩ := h
    rfl
  obtain ⟨g, L, T, v, rfl, G, ⟨t, h1, h2, _⟩, hv, q⟩ := h
  refine ⟨_, (qss_cons (qs_set (i := 2) scLTold.nd rfl (Or.inl rfl) (qe_lst qa_nil))
    (qss_cons (qs_for PassesOwn.never rfl (qi_list K (qe_op op_cat (qe_callTy (call_listS rfl) rfl m_list (by decide +kernel) (qa_cons (qe_ix (r := rIxT K) ix_tup (qv 0) qe_int) qa_nil)) (qe_callTy (r := rListOf K) c_list_of rfl m_list (by decide +kernel) (qa_cons (qe_ix (r := rIxT K) ix_tup (qv 0) qe_int) qa_nil)))) (qg_name (i := 3) scLTold.nd rfl (Or.inr rfl))
      (qss_one (qs_expr (qe_bm K PySem.F.plainAttrs_list PySem.F.slot_list_append PySem.F.type_list_append mt_append (qv 2) (qa_cons (qe_tup (qa_cons (qv 3) (qa_cons (qe_bm K (r := rJoin K) PySem.F.plainAttrs_str PySem.F.slot_str_join PySem.F.type_str_join mt_join qe_str (qa_cons (qe_comp (N := ["_law_letter", "_law_letters_here"]) (k := 1) (fr := [3]) (by kernel_rfl) rfl (qi_str (qv 1)) (fun _ _ _ _ _ => qg_name (i := 0) ndLTold_1 rfl (Or.inl rfl)) (fun _ _ _ _ _ => qts_one (qt_cmp op_in1 (qv 0) (qv 1) rfl)) (fun _ _ _ _ _ => (qv 0))) qa_nil)) qa_nil))) qa_nil)))))
    (qss_one (qs_ret (qe_callTy (r := rTupOf K) c_tuple_of rfl m_tuple (by decide +kernel) (qa_cons (qv 2) qa_nil)))))), ?_⟩
  have hl5 := G.le.l5
  have htl := G.tl
  have hpl := parts_len G
  refine ⟨by show 0 ≤ sizeLine; omega, fun fA hfA => ?_⟩
  have s0 : Same H (upd H fA (.lst [])) := same_new hfA _
  refine ⟨_, rfl, g, _, 0, tx L, rfl, rfl, SqT.of (s0 _ _ h1), rfl, S L, rfl, by rw [S_len]; exact small (by omega), fun lA hlA => ?_⟩
  have s1 := s0.trans (same_new hlA (.lst (signsV (S L))))
  refine ⟨_, rfl, g, _, 1, .ref t, rfl, rfl, SqT.of (s1 _ _ h1), rfl, t, _, rfl, .inr (SqT.of (s1 _ _ h2)), fun tA htA => ?_⟩
  have nlt : lA ≠ tA := fun z => by subst z; rw [upd_same] at htA; cases htA
  have s2 := s1.trans (same_new htA (.lst (T.map tx)))
  have hlen : (signsV (S L)).length + (T.map tx).length ≤ sizeLine := by rw [signsV_length, S_len, List.length_map]; exact small (by omega)
  refine ⟨lA, tA, _, _, rfl, rfl, by rw [upd_ne nlt, upd_same], upd_same, hlen, fun c hc => ?_⟩
  rw [parts_map]
  have s3 := s2.trans (same_new hc (.lst ((parts L T).map tx)))
  have fF : upd (upd (upd (upd H fA (.lst [])) lA (.lst (signsV (S L)))) tA (.lst (T.map tx))) c (.lst ((parts L T).map tx)) fA = some (.lst []) := by
    have f1 : upd (upd H fA (.lst [])) lA (.lst (signsV (S L))) fA = some (.lst []) := by rw [upd_ne (ne_of_none upd_same hlA), upd_same]
    have f2 : upd (upd (upd H fA (.lst [])) lA (.lst (signsV (S L)))) tA (.lst (T.map tx)) fA = some (.lst []) := by rw [upd_ne (ne_of_none f1 htA)]; exact f1
    rw [upd_ne (ne_of_none f2 hc)]
    exact f2
  have nfc : c ≠ fA := fun z => by
    subst z
    have f1 : upd (upd H c (.lst [])) lA (.lst (signsV (S L))) c = some (.lst []) := by rw [upd_ne (ne_of_none upd_same hlA), upd_same]
    have f2 : upd (upd (upd H c (.lst [])) lA (.lst (signsV (S L)))) tA (.lst (T.map tx)) c = some (.lst []) := by rw [upd_ne (ne_of_none f1 htA)]; exact f1
    rw [f2] at hc
    cases hc
  refine ⟨c, rfl, ⟨_, SqL.of upd_same⟩, for_list (K := K) (a := c) (xs := (parts L T).map tx) (fun i σ H2 => ∃ (ys : List V) (x : Option V), σ = [some (.ref g), some (tx v), some (.ref fA), x] ∧ Same H H2 ∧ H2 c = some (.lst ((parts L T).map tx)) ∧ H2 fA = some (.lst ys) ∧ Paired (fun x y => RelP v x y H2) (((parts L T).take i).map tx) ys)
    ⟨[], none, rfl, s3, upd_same, fF, .nil⟩ (fun i σ H2 _ ⟨_, _, _, _, hcc, _⟩ => SqL.of hcc) ?_ ?_⟩
  · rintro i x σ H2 hx ⟨ys, x0, rfl, sm, hcc, hff, hp⟩
    have hil : i < ((parts L T).map tx).length := (List.getElem?_eq_some_iff.mp hx).1
    rw [List.length_map] at hil
    have hx' : ∃ z, (parts L T)[i]? = some z ∧ x = tx z := by
      rw [List.getElem?_map] at hx
      cases e : (parts L T)[i]? with
      | none => rw [e] at hx; cases hx
      | some z => rw [e] at hx; exact ⟨z, rfl, (Option.some.inj hx).symm⟩
    obtain ⟨z, hz, rfl⟩ := hx'
    refine ⟨_, rfl, .inl ⟨rfl, _, SqL.of hff⟩, _, rfl, rfl, _, rfl, S v, rfl, fun D hD => ?_⟩
    refine left_read (l := z) (v := v) (fr := [3]) (signsV_S v ▸ yields_str) hD hv (fun c H' Qb k => ?_) (fun c H' Qv k => ⟨_, rfl, k⟩) fun H3 sm3 hd => ?_
    · refine ⟨_, rfl, _, rfl, c, S z, rfl, rfl, _, rfl, ?_⟩
      rw [S_cps]
      exact k
    · rw [e_empty]
      have hl := only_le v z
      refine ⟨S [], D, _, rfl, rfl, SqL.of hd, ?_, ?_⟩
      · rw [sum_signs, S_nil, Nat.mul_zero]
        omega
      · rw [join_signs]
        refine ⟨by show 2 ≤ sizeLine; exact small (by decide), fun p hpn => ?_⟩
        have hff3 : upd H3 p (.tup [tx z, tx (HW.only v z)]) fA = some (.lst ys) := by rw [upd_ne (ne_of_none (sm3 _ _ hff) hpn)]; exact sm3 _ _ hff
        have hyl : ys.length ≤ 30 := by
          have e := hp.length
          rw [List.length_map, List.length_take] at e
          omega
        refine ⟨fA, ys, _, rfl, rfl, hff3, Nat.lt_of_le_of_lt hyl (Nat.lt_of_lt_of_le (by decide : 30 < 100) (small (by decide))), ?_⟩
        have s4 : Same H2 (upd H3 p (.tup [tx z, tx (HW.only v z)])) := sm3.trans (same_new hpn _)
        have tupK : ∀ b zs, H2 b = some (.tup zs) → upd (upd H3 p (.tup [tx z, tx (HW.only v z)])) fA (.lst (ys ++ [.ref p])) b = some (.tup zs) := fun b zs e => by
          rw [upd_ne (ne_of (s4 b _ e) hff3 (by intro y; cases y))]
          exact s4 b _ e
        have npf : p ≠ fA := (ne_of_none (sm3 _ _ hff) hpn).symm
        refine ⟨ys ++ [.ref p], _, rfl, ⟨fun b o e => ?_, (sm.trans s4).ck⟩, ?_, upd_same, ?_⟩
        · rw [upd_ne (ne_of_none e hfA)]
          exact s4 b o (sm b o e)
        · rw [upd_ne nfc]
          exact s4 _ _ hcc
        · rw [List.take_add_one, hz, List.map_append]
          refine Paired.snoc (Paired.mapP hp fun a b r => relP_mono v a b _ _ r tupK) ⟨z, p, rfl, rfl, ?_⟩
          rw [upd_ne npf, upd_same]
  · rintro σ H2 ⟨ys, x0, rfl, sm, hcc, hff, hp⟩
    rw [List.length_map, List.take_length] at hp
    have hz : ys.length ≤ sizeLine := by rw [← hp.length, List.length_map]; exact small (by omega)
    refine ⟨_, rfl, fA, ys, rfl, .inl ⟨SqL.of hff, fun p hpn => ?_⟩⟩
    have k2 : Same H2 (upd H2 p (.tup ys)) := same_new hpn _
    exact q p ys _ (sm.trans k2) upd_same (.tup (SqT.of upd_same) (dvs_parts (Paired.mapP hp fun a b r => relP_mono v a b _ _ r fun c zs e => k2 c _ e)))
def spSame : Sp := fun vs H Q _ => ∃ (g : Addr) (L : List Nat) (T : List (List Nat)) (u v : List Nat), vs = [.ref g, tx u, tx v] ∧ Ground L T ∧ GAt H g L T ∧ (∀ c ∈ u, c ∈ L) ∧ (∀ c ∈ v, c ∈ L) ∧ u.length ≤ 60 ∧ v.length ≤ 60 ∧
  ∀ H' b, Same H H' → (b = true ↔ TR.Heq (tiedB T) u v) → Q (.bl b) H'
abbrev sSame : Stmt := top 23
theorem scSame : FnScope ["_law_ground_here", "_law_one", "_law_other"] ["_law_ground_here", "_law_one", "_law_other"] (defScope sSame) := ⟨rfl, rfl, rfl, by decide +kernel, rfl, by decide +kernel, by decide +kernel⟩
theorem ok_Same {f : Addr} {fd : FuncData} (F : Fun K "_law_same" "_law_same" sSame f fd)
    {fLTold : Addr} {fdLTold : FuncData} (GLTold : FnOk P w K mg base CX0 1 fLTold fdLTold ["_law_ground_here", "_law_word_here"] (spTold K)) (bLTold : Binds K fdLTold ["_law_ground_here", "_law_word_here"] []) (kLTold : PySem.W.keepIn K (.ref fLTold) = true) (mLTold : mg "_law_told" = some (.ref fLTold))
       : FnOk P w K mg base CX0 2 f fd ["_law_ground_here", "_law_one", "_law_other"] spSame := by
  refine F.okQ scSame (fun vs H Q E h => ?_) (fun cdv A outer s H vs Q E hr h => ?_)
  · obtain ⟨g, L, T, u, v, rfl, _⟩ := h
    rfl
  obtain ⟨g, L, T, u, v, rfl, G, GA, hu, hv, lu, lv, q⟩ := h
  refine ⟨_, (qss_one (qs_ret (qe_cmp (r := rEqD K) (o_eqD hr.units) (qe_call GLTold hr rfl mLTold kLTold bLTold .nil pass0 (qa_cons (qv 0) (qa_cons (qv 1) qa_nil))) (qe_call GLTold hr rfl mLTold kLTold bLTold .nil pass0 (qa_cons (qv 0) (qa_cons (qv 2) qa_nil))) (nomark _)))), ?_⟩
  have sA : Same H H := Same.refl _
  refine ⟨_, rfl, _, rfl, g, L, T, u, rfl, G, GA.same sA, by omega, fun p1 xs1 H1 s1 hp1 dp1 => ?_⟩
  refine ⟨_, rfl, _, rfl, g, L, T, v, rfl, G, GA.same (sA.trans s1), by omega, fun p2 xs2 H2 s2 hp2 dp2 => ?_⟩
  exact ⟨_, _, dv_same s2 dp1, dp2, (shaped_told G hu).1, (shaped_told G hv).1, q H2 _ (sA.trans (s1.trans s2)) (eqv_told G hu hv)⟩
abbrev sWhole : Stmt := top 24
theorem scWhole : FnScope ["_law_found"] ["_law_found"] (defScope sWhole) := ⟨rfl, rfl, rfl, by decide +kernel, rfl, by decide +kernel, by decide +kernel⟩
theorem ok_Whole {f : Addr} {fd : FuncData} (F : Fun K "_law_whole" "_law_whole" sWhole f fd)
    (m_bool : mg "bool" = none) (m_int : mg "int" = none) (m_isinstance : mg "isinstance" = none)  (kib : PySem.W.kitOne K (.type "int") (.type "bool") = some false) : FnOk P w K mg base CX0 1 f fd ["_law_found"] spWhole := by
  refine F.okQ scWhole (fun vs H Q E h => ?_) (fun cdv A outer s H vs Q E hr h => ?_)
  · obtain ⟨i, rfl, _⟩ := h
    rfl
  obtain ⟨i, rfl, q⟩ := h
  refine ⟨_, (qss_one (qs_ret (qe_and (qe_callB (r := rIsInst K) c_isinst rfl m_isinstance (by decide +kernel) (qa_cons (qv 0) (qa_cons (qe_bltn (v := .ty "int") rfl m_int (by decide +kernel) rfl) qa_nil))) (qe_one (qe_not (qe_callB (r := rIsInst K) c_isinst rfl m_isinstance (by decide +kernel) (qa_cons (qv 0) (qa_cons (qe_bltn (v := .ty "bool") rfl m_bool (by decide +kernel) rfl) qa_nil)))))))), ?_⟩
  refine ⟨_, rfl, _, "int", .type "int", true, rfl, .int i, if_pos (beq_self_eq_true _), _, rfl, ?_⟩
  exact iteT ⟨_, rfl, _, "bool", .type "int", false, rfl, .int i, kib, _, rfl, q H (Same.refl _)⟩
end
end K10
namespace K10
open PySem L2 HW PyProof.Rows
section
variable {P : Program} {w : World} {K : PySem.W.Frag} {mg : Str → Option Value} {base : Heap}
abbrev sIsTied : Stmt := top 1
theorem scIsTied : FnScope ["ground", "one", "other", "ties"] ["ground", "one", "other"] (defScope sIsTied) := ⟨rfl, rfl, rfl, by decide +kernel, rfl, by decide +kernel, by decide +kernel⟩
theorem ok_IsTied {f : Addr} {fd : FuncData} (F : Fun K "is_tied" "is_tied" sIsTied f fd)
       : FnOk P w K mg base CX0 1 f fd ["ground", "one", "other"] spTied := by
  refine F.okQ scIsTied (fun vs H Q E h => ?_) (fun cdv A outer s H vs Q E hr h => ?_)
  · obtain ⟨g, L, T, a, b, rfl, _⟩ := h
    rfl
  obtain ⟨g, L, T, a, b, rfl, G, ⟨t, h1, h2, _⟩, q⟩ := h
  refine ⟨_, (qss_cons (qs_set (i := 3) scIsTied.nd rfl (Or.inl rfl) (qe_ix (r := rIxT K) ix_tup (qv 0) qe_int))
    (qss_one (qs_ret (qe_or (qe_cmp op_eq (qv 1) (qv 2) (nomark _)) (qe_or (qe_cmp (r := rIn K false) op_in_seq (qe_op op_add_str (qv 1) (qv 2)) (qv 3) rfl) (qe_one (qe_cmp (r := rIn K false) op_in_seq (qe_op op_add_str (qv 2) (qv 1)) (qv 3) rfl))))))), ?_⟩
  refine ⟨_, rfl, g, _, 1, .ref t, rfl, rfl, SqT.of h1, rfl, ?_⟩
  refine ⟨_, rfl, _, rfl, rfl, _, rfl, ?_⟩
  rw [← tied_two G a b] at q
  show if decide (chV a = chV b) = true then _ else _
  rw [ch_dec]
  have hz : (S [a]).length + (S [b]).length ≤ sizeLine := by rw [S_len, S_len]; exact small (by show 2 ≤ 100000; decide)
  have hz' : (S [b]).length + (S [a]).length ≤ sizeLine := by rw [S_len, S_len]; exact small (by show 2 ≤ 100000; decide)
  have ea : S [a] ++ S [b] = S [a, b] := S_app [a] [b]
  have eb : S [b] ++ S [a] = S [b, a] := S_app [b] [a]
  cases e1 : decide (a = b) with
  | true =>
    rw [e1] at q
    exact iteT q
  | false =>
    rw [e1, Bool.false_or] at q
    refine iteF ⟨_, rfl, _, rfl, _, _, rfl, rfl, hz, _, rfl, t, _, rfl, .inr (SqT.of h2), rfl, flat_tx T, _, rfl, ?_⟩
    show if (inV (V.str (S [a] ++ S [b])) (T.map tx)) = true then _ else _
    rw [ea, inV_tx]
    cases e2 : decide ([a, b] ∈ T) with
    | true =>
      rw [e2] at q
      exact iteT q
    | false =>
      rw [e2, Bool.false_or] at q
      refine iteF ⟨_, rfl, _, rfl, _, _, rfl, rfl, hz', _, rfl, t, _, rfl, .inr (SqT.of h2), rfl, flat_tx T, ?_⟩
      show Q (.bl (inV (V.str (S [b] ++ S [a])) (T.map tx))) H
      rw [eb, inV_tx]
      exact q
abbrev sAnyTied : Stmt := top 2
theorem scAnyTied : FnScope ["ground", "letters", "others", "one", "other"] ["ground", "letters", "others"] (defScope sAnyTied) := ⟨rfl, rfl, rfl, by decide +kernel, rfl, by decide +kernel, by decide +kernel⟩
theorem ok_AnyTied {f : Addr} {fd : FuncData} (F : Fun K "any_tied" "any_tied" sAnyTied f fd)
    {fIsTied : Addr} {fdIsTied : FuncData} (GIsTied : FnOk P w K mg base CX0 1 fIsTied fdIsTied ["ground", "one", "other"] spTied) (bIsTied : Binds K fdIsTied ["ground", "one", "other"] []) (kIsTied : PySem.W.keepIn K (.ref fIsTied) = true) (mIsTied : mg "is_tied" = some (.ref fIsTied))
       : FnOk P w K mg base CX0 2 f fd ["ground", "letters", "others"] spAny := by
  refine F.okQ scAnyTied (fun vs H Q E h => ?_) (fun cdv A outer s H vs Q E hr h => ?_)
  · obtain ⟨g, L, T, u, v, rfl, _⟩ := h
    rfl
  obtain ⟨g, L, T, u, v, rfl, G, GA, q⟩ := h
  refine ⟨_, (qss_cons (qs_for PassesOwn.never rfl (qi_str (qv 1)) (qg_name (i := 3) scAnyTied.nd rfl (Or.inl rfl))
      (qss_one (qs_for PassesOwn.never rfl (qi_str (qv 2)) (qg_name (i := 4) scAnyTied.nd rfl (Or.inl rfl))
      (qss_one (qs_if (qt_val (qe_call GIsTied hr rfl mIsTied kIsTied bIsTied .nil pass0 (qa_cons (qv 0) (qa_cons (qv 3) (qa_cons (qv 4) qa_nil))))) (qss_one (qs_ret qe_bl)) qss_nil)))))
    (qss_one (qs_ret qe_bl))), ?_⟩
  refine ⟨_, rfl, _, rfl, for_str (x := S u) (fun i σ H2 => ∃ (x1 x2 : Option V), σ = [some (.ref g), some (tx u), some (tx v), x1, x2] ∧ Same H H2 ∧ anyT T (u.take i) v = false)
    ⟨none, none, rfl, Same.refl _, rfl⟩ ?_ ?_⟩
  · rintro i a σ H2 ha ⟨x1, x2, rfl, sm, hf⟩
    rw [S_cps'] at ha
    refine ⟨_, rfl, _, rfl, for_str (x := S v) (fun j σ H3 => ∃ (x2 : Option V), σ = [some (.ref g), some (tx u), some (tx v), some (chV a), x2] ∧ Same H H3 ∧ ((v.take j).any fun b => tiedB T a b) = false)
      ⟨x2, rfl, sm, rfl⟩ ?_ ?_⟩
    · rintro j b σ H3 hb ⟨x2, rfl, sm3, hg⟩
      rw [S_cps'] at hb
      refine ⟨_, rfl, _, rfl, _, rfl, g, L, T, a, b, rfl, G, GA.same sm3, ?_⟩
      cases ht : tiedB T a b with
      | true =>
        refine ⟨_, rfl, iteT ?_⟩
        have e : anyT T u v = true := by
          unfold anyT
          rw [List.any_eq_true]
          refine ⟨a, List.mem_of_getElem? ha, ?_⟩
          rw [List.any_eq_true]
          exact ⟨b, List.mem_of_getElem? hb, ht⟩
        rw [← e]
        exact q H3 sm3
      | false =>
        refine ⟨_, rfl, iteF ⟨_, rfl, sm3, ?_⟩⟩
        rw [List.take_add_one, hb]
        show ((v.take j ++ [b]).any fun b => tiedB T a b) = false
        rw [List.any_append, hg, List.any_cons, List.any_nil, ht]
        rfl
    · rintro σ H3 ⟨x2, rfl, sm3, hg⟩
      rw [S_len, List.take_length] at hg
      refine ⟨_, _, rfl, sm3, ?_⟩
      rw [List.take_add_one, ha]
      show anyT T (u.take i ++ [a]) v = false
      rw [anyT_snoc, hf, hg]
      rfl
  · rintro σ H2 ⟨x1, x2, rfl, sm, hf⟩
    rw [S_len, List.take_length] at hf
    rw [hf] at q
    exact q H2 sm
abbrev sIsFirst : Stmt := top 5
theorem scIsFirst : FnScope ["ground", "word", "letter"] ["ground", "word", "letter"] (defScope sIsFirst) := ⟨rfl, rfl, rfl, by decide +kernel, rfl, by decide +kernel, by decide +kernel⟩
theorem ok_IsFirst {f : Addr} {fd : FuncData} (F : Fun K "is_first" "is_first" sIsFirst f fd)
    {fAnyTied : Addr} {fdAnyTied : FuncData} (GAnyTied : FnOk P w K mg base CX0 2 fAnyTied fdAnyTied ["ground", "letters", "others"] spAny) (bAnyTied : Binds K fdAnyTied ["ground", "letters", "others"] []) (kAnyTied : PySem.W.keepIn K (.ref fAnyTied) = true) (mAnyTied : mg "any_tied" = some (.ref fAnyTied))
       : FnOk P w K mg base CX0 3 f fd ["ground", "word", "letter"] spIsFirst := by
  refine F.okQ scIsFirst (fun vs H Q E h => ?_) (fun cdv A outer s H vs Q E hr h => ?_)
  · obtain ⟨g, L, T, x, y, c, rfl, _⟩ := h
    rfl
  obtain ⟨g, L, T, x, y, c, rfl, G, GA, hn, hz, q⟩ := h
  refine ⟨_, (qss_one (qs_ret (qe_not (qe_call GAnyTied hr rfl mAnyTied kAnyTied bAnyTied .nil pass0 (qa_cons (qv 0) (qa_cons (qe_slice sl_str (qv 1) qo_none (qo_some (qe_bm K PySem.F.plainAttrs_str PySem.F.slot_str_find PySem.F.type_str_find mt_find (qv 1) (qa_cons (qv 2) qa_nil)))) (qa_cons (qv 2) qa_nil))))))), ?_⟩
  have hzS : (S (x ++ c :: y)).length ≤ sizeLine := by rw [S_len]; exact small (by omega)
  refine ⟨_, rfl, _, rfl, _, rfl, rfl, _, rfl, x, y, c, rfl, rfl, hn, _, rfl, S _, rfl, hzS, ?_⟩
  rw [slice_to, List.take_left]
  exact ⟨_, rfl, g, L, T, x, [c], rfl, G, GA, fun H1 s1 => ⟨_, rfl, q H1 s1⟩⟩
abbrev sWithout : Stmt := top 6
theorem scWithout : FnScope ["word", "letter"] ["word", "letter"] (defScope sWithout) := ⟨rfl, rfl, rfl, by decide +kernel, rfl, by decide +kernel, by decide +kernel⟩
theorem ok_Without {f : Addr} {fd : FuncData} (F : Fun K "without" "without" sWithout f fd)
       : FnOk P w K mg base CX0 1 f fd ["word", "letter"] spWithout := by
  refine F.okQ scWithout (fun vs H Q E h => ?_) (fun cdv A outer s H vs Q E hr h => ?_)
  · obtain ⟨x, y, c, n, rfl, _⟩ := h
    rfl
  obtain ⟨x, y, c, n, rfl, hk, h1, hn, hz, q⟩ := h
  refine ⟨_, (qss_one (qs_ret (qe_bm K PySem.F.plainAttrs_str PySem.F.slot_str_replace PySem.F.type_str_replace mt_cut (qv 0) (qa_cons (qv 1) (qa_cons qe_new (qa_cons qe_int qa_nil)))))), ?_⟩
  refine ⟨_, rfl, rfl, _, rfl, fun m hm => ?_⟩
  exact ⟨x, y, c, 1, n, m, m + 1, rfl, rfl, Nat.le_refl _, Nat.le_trans hk hm, Nat.le_trans h1 hm, hn, by omega, q _ (same_bump (Nat.le_succ_of_le hm))⟩
abbrev sFirsts : Stmt := top 4
theorem scFirsts : FnScope ["ground", "word"] ["ground", "word"] (defScope sFirsts) := ⟨rfl, rfl, rfl, by decide +kernel, rfl, by decide +kernel, by decide +kernel⟩
theorem ndFirsts_0 : (["letter", "ground", "word"] : List Str).Nodup := by decide +kernel
theorem ok_Firsts {f : Addr} {fd : FuncData} (F : Fun K "firsts" "firsts" sFirsts f fd)
    {fIsFirst : Addr} {fdIsFirst : FuncData} (GIsFirst : FnOk P w K mg base CX0 3 fIsFirst fdIsFirst ["ground", "word", "letter"] spIsFirst) (bIsFirst : Binds K fdIsFirst ["ground", "word", "letter"] []) (kIsFirst : PySem.W.keepIn K (.ref fIsFirst) = true) (mIsFirst : mg "is_first" = some (.ref fIsFirst))
    (m_set : mg "set" = none) (m_sorted : mg "sorted" = none)   : FnOk P w K mg base CX0 4 f fd ["ground", "word"] spFirsts := by
  refine F.okQ scFirsts (fun vs H Q E h => ?_) (fun cdv A outer s H vs Q E hr h => ?_)
  · obtain ⟨g, L, T, wd, rfl, _⟩ := h
    rfl
  obtain ⟨g, L, T, wd, rfl, G, GA, hz, q⟩ := h
  refine ⟨_, (qss_one (qs_ret (qe_comp (N := ["letter", "ground", "word"]) (k := 1) (fr := [0, 1]) (by kernel_rfl) rfl (qi_list K (qe_callB (r := rSortedU P w) (c_sortedU rfl) rfl m_sorted boot_sorted (qa_cons (qe_callTy (r := rSetT P w) (c_setT rfl) rfl m_set (by decide +kernel) (qa_cons (qv 1) qa_nil)) qa_nil))) (fun _ _ _ _ _ => qg_name (i := 0) ndFirsts_0 rfl (Or.inl rfl)) (fun _ _ _ _ _ => qts_one (qt_val (qe_call GIsFirst hr rfl mIsFirst kIsFirst bIsFirst .nil pass0 (qa_cons (qv 1) (qa_cons (qv 2) (qa_cons (qe_wk (qv 0)) qa_nil)))))) (fun _ _ _ _ _ => (qv 0))))), ?_⟩
  have Td := td_ok T
  refine ⟨_, rfl, S wd, rfl, by rw [S_len]; omega, GA.ck, fun p ss n hp hn nd hl hm => ?_⟩
  obtain ⟨fd, rfl, hfd, hmem⟩ := set_codes nd hm
  rw [List.length_map, S_len] at hl
  refine ⟨p, _, n, rfl, upd_same, by rw [List.length_map]; omega, fun l0 ss' hl0 hpm hst => ?_⟩
  obtain ⟨F0, rfl, pF, uF⟩ := sorted_codes hpm hst hfd
  have hF0 : F0.length ≤ 60 := by rw [pF.length_eq]; omega
  have s1 : Same H (upd ((upd H p (HSet P w true n p (fd.map fun c => S [c]))).bump n) l0 (.lst ((F0.map fun c => S [c]).map fun x => V.old x 1 n))) := ((same_new hp _).trans (same_bump hn)).trans (same_new hl0 _)
  refine ⟨l0, rfl, ⟨_, SqL.of upd_same⟩, fun D hD => ?_⟩
  have em : ((F0.map fun c => S [c]).map fun x => V.old x 1 n) = F0.map (oV n) := by rw [List.map_map]; rfl
  refine comp_val (α := Nat) (as_ := F0) (fr := [0, 1]) (by rw [em, List.length_map]) (yields_list (SqL.of upd_same)) hD (by rw [em, List.length_map]; exact small (by omega)) (fun c => decide (c ∈ TR.firsts (tiedB T) wd)) (oV n) (fun j v c H' Qb hx hc sm' k => ?_) (fun j v c H' Qv hx hc _ sm' k => ?_) fun H4 s4 hd4 => ?_
  · rw [em] at hx
    cases getI_map hx hc
    have hcw : c ∈ wd := (hmem c).mp (pF.mem_iff.mp (List.mem_of_getElem? hc))
    obtain ⟨x, y, e, hxn⟩ := TR.first_place hcw
    subst e
    refine ⟨_, rfl, _, rfl, _, rfl, g, L, T, x, y, c, rfl, G, GA.same (s1.trans sm'), hxn, hz, fun H5 s5 => ?_⟩
    have e : (!anyT T x [c]) = decide (c ∈ TR.firsts (tiedB T) (x ++ c :: y)) := by
      rw [Bool.eq_iff_iff, fr_first hxn, decide_eq_true_iff, TR.mem_firsts Td]
    rw [e]
    exact ⟨_, rfl, k H5 s5⟩
  · rw [em] at hx
    cases getI_map hx hc
    exact ⟨_, rfl, k H' (Same.refl _)⟩
  · refine q D _ n H4 (s1.trans s4) (s1.free hD) hd4 (Nat.le_trans (Nat.le_refl _) s4.ck) (uF.filter _) fun a => ?_
    rw [List.mem_filter, decide_eq_true_iff, pF.mem_iff, hmem, TR.mem_firsts Td]
    exact ⟨fun z => z.2, fun z => ⟨z.mem, z⟩⟩
abbrev sPlain : Stmt := top 13
theorem scPlain : FnScope ["ground", "word", "done", "rest", "letter"] ["ground", "word"] (defScope sPlain) := ⟨rfl, rfl, rfl, by decide +kernel, rfl, by decide +kernel, by decide +kernel⟩
theorem ok_Plain {f : Addr} {fd : FuncData} (F : Fun K "plain" "plain" sPlain f fd)
    {fFirsts : Addr} {fdFirsts : FuncData} (GFirsts : FnOk P w K mg base CX0 4 fFirsts fdFirsts ["ground", "word"] spFirsts) (bFirsts : Binds K fdFirsts ["ground", "word"] []) (kFirsts : PySem.W.keepIn K (.ref fFirsts) = true) (mFirsts : mg "firsts" = some (.ref fFirsts))
    {fWithout : Addr} {fdWithout : FuncData} (GWithout : FnOk P w K mg base CX0 1 fWithout fdWithout ["word", "letter"] spWithout) (bWithout : Binds K fdWithout ["word", "letter"] []) (kWithout : PySem.W.keepIn K (.ref fWithout) = true) (mWithout : mg "without" = some (.ref fWithout))
       : FnOk P w K mg base CX0 5 f fd ["ground", "word"] spPlain := by
  refine F.okQ scPlain (fun vs H Q E h => ?_) (fun cdv A outer s H vs Q E hr h => ?_)
  · obtain ⟨g, L, T, w, rfl, _⟩ := h
    rfl
  obtain ⟨g, L, T, w, rfl, G, GA, hw, hz, q⟩ := h
  have hr1 : Room 1 _ := hr.mono (by decide)
  refine ⟨_, (qss_cons (qs_set (i := 2) scPlain.nd rfl (Or.inl rfl) qe_str)
    (qss_cons (qs_set (i := 3) scPlain.nd rfl (Or.inl rfl) (qv 1))
    (qss_cons (qs_while PassesOwn.never (qt_cmp op_ne (qv 3) qe_str (nomark _))
      (qss_cons (qs_set (i := 4) scPlain.nd rfl (Or.inl rfl) (qe_ix (r := rIxL K) ix_list (qe_call GFirsts hr rfl mFirsts kFirsts bFirsts .nil pass0 (qa_cons (qv 0) (qa_cons (qv 3) qa_nil))) qe_int))
    (qss_cons (qs_aug (i := 2) scPlain.nd rfl (Or.inl rfl) (qe_wk (qv 4)) iop_add_str)
    (qss_one (qs_set (i := 3) scPlain.nd rfl (Or.inl rfl) (qe_call GWithout hr1 rfl mWithout kWithout bWithout .nil pass0 (qa_cons (qv 3) (qa_cons (qv 4) qa_nil))))))))
    (qss_one (qs_ret (qv 2)))))), ?_⟩
  have Td := td_ok T
  rw [e_empty]
  refine ⟨_, rfl, while_by (fun σ H2 => ∃ (v f : List Nat) (x4 : Option V), σ = [some (.ref g), some (tx w), some (tx f), some (tx v), x4] ∧ Same H H2 ∧ f ++ TR.pl (tiedB T) v = TR.pl (tiedB T) w ∧ f.length + v.length ≤ 60) (lenAt 3) ⟨w, [], none, rfl, Same.refl _, rfl, by simpa using hz⟩ ?_ ?_⟩
  · rintro σ H2 ⟨v, f, x4, rfl, sm, hpl, hfl⟩
    refine ⟨_, rfl, rfl, _, rfl, ?_⟩
    rw [tx_dec]
    by_cases hve : v = []
    · rw [decide_eq_true hve]
      refine iteF ⟨_, rfl, ?_⟩
      rw [hve, TR.pl_nil, List.append_nil] at hpl
      rw [hpl]
      exact q H2 sm
    · rw [decide_eq_false hve]
      refine iteT ⟨_, rfl, _, rfl, g, L, T, v, rfl, G, GA.same sm, by omega, fun l F n H3 s3 hl0 hl hn up hF => ?_⟩
      obtain ⟨F', eF⟩ := up_head Td up hF hve
      have fm := (TR.mem_firsts Td).mp (TR.lst_mem (TR.firsts_ne Td hve))
      have hst := pl_step Td hve
      generalize TR.lst (TR.firsts (tiedB T) v) = m at fm hst eF
      subst eF
      refine ⟨l, _, 0, oV n m, rfl, rfl, SqL.of hl, atI_zero _ _, ?_⟩
      have sm3 := sm.trans s3
      refine ⟨_, rfl, _, rfl, _, _, rfl, rfl, by rw [S_len, S_len]; exact small (by show _ + 1 ≤ 100000; omega), ?_⟩
      rw [S_app]
      obtain ⟨x, y, e, hx⟩ := id fm
      have hmx : m ∉ x := fun z => by have := hx m z; rw [Td.r] at this; cases this
      have hlen : v.length = x.length + (y.length + 1) := by rw [e, List.length_append]; rfl
      subst e
      rw [TR.fr_erase Td hx] at hst
      refine ⟨_, rfl, _, rfl, x, y, m, n, rfl, hn, Nat.le_trans GA.ck sm3.ck, hmx, by omega, fun H4 s4 => ⟨⟨x ++ y, f ++ [m], _, rfl, sm3.trans s4, ?_, ?_⟩, ?_⟩⟩
      · rw [List.append_assoc]
        show f ++ (m :: TR.pl (tiedB T) (x ++ y)) = _
        rw [← hst]
        exact hpl
      · rw [List.length_append, List.length_append]
        show f.length + 1 + (x.length + y.length) ≤ 60
        omega
      · show (S (x ++ y)).length < (S (x ++ m :: y)).length
        rw [S_len, S_len, List.length_append, List.length_append, List.length_cons]
        omega
  · intro σ H Q Q' hQ hc
    obtain ⟨v, hv, h1, k, h2, h3⟩ := hc
    exact ⟨v, hv, h1, k, h2, hQ _ _ h3⟩
abbrev sWays : Stmt := top 11
theorem scWays : FnScope ["ground", "ways", "further", "rest", "letter", "shorter"] ["ground", "ways"] (defScope sWays) := ⟨rfl, rfl, rfl, by decide +kernel, rfl, by decide +kernel, by decide +kernel⟩
theorem ok_Ways {f : Addr} {fd : FuncData} (F : Fun K "ways_one_letter_on" "ways_one_letter_on" sWays f fd)
    {fFirsts : Addr} {fdFirsts : FuncData} (GFirsts : FnOk P w K mg base CX0 4 fFirsts fdFirsts ["ground", "word"] spFirsts) (bFirsts : Binds K fdFirsts ["ground", "word"] []) (kFirsts : PySem.W.keepIn K (.ref fFirsts) = true) (mFirsts : mg "firsts" = some (.ref fFirsts))
    {fWithout : Addr} {fdWithout : FuncData} (GWithout : FnOk P w K mg base CX0 1 fWithout fdWithout ["word", "letter"] spWithout) (bWithout : Binds K fdWithout ["word", "letter"] []) (kWithout : PySem.W.keepIn K (.ref fWithout) = true) (mWithout : mg "without" = some (.ref fWithout))
       : FnOk P w K mg base CX0 5 f fd ["ground", "ways"] spWays := by
  refine F.okQ scWays (fun vs H Q E h => ?_) (fun cdv A outer s H vs Q E hr h => ?_)
  · obtain ⟨g, a, L, T, D, wd, rfl, _⟩ := h
    rfl
  obtain ⟨g, a, L, T, D, wd, rfl, G, GA, ha, nd, hsub, hne, hw, q⟩ := h
  have hr1 : Room 1 _ := hr.mono (by decide)
  refine ⟨_, (qss_cons (qs_set (i := 2) scWays.nd rfl (Or.inl rfl) qe_dnew)
    (qss_cons (qs_for PassesOwn.never rfl (qi_dict (qv 1)) (qg_name (i := 3) scWays.nd rfl (Or.inl rfl))
      (qss_one (qs_for PassesOwn.never rfl (qi_list K (qe_call GFirsts hr rfl mFirsts kFirsts bFirsts .nil pass0 (qa_cons (qv 0) (qa_cons (qv 3) qa_nil)))) (qg_name (i := 4) scWays.nd rfl (Or.inl rfl))
      (qss_cons (qs_set (i := 5) scWays.nd rfl (Or.inl rfl) (qe_call GWithout hr1 rfl mWithout kWithout bWithout .nil pass0 (qa_cons (qv 3) (qa_cons (qv 4) qa_nil))))
    (qss_one (qs_dput (room1 hr) (qv 2) (qv 5) (qe_op op_add (qe_dget2 (room1 hr) (qv 2) (qv 5) qe_int) (qe_dget (room1 hr) (qv 1) (qv 3)))))))))
    (qss_one (qs_ret (qv 2))))), ?_⟩
  have Td := td_ok T
  intro b hb
  have nab : a ≠ b := fun z => by subst z; rw [hb] at ha; cases ha
  have nag : ∀ {H2 : Hp} {ho : HO}, H2 = H → GAt (upd (upd H2 b (.dK [])) a ho) g L T := fun e => by
    subst e
    exact GAt.put (GA.same (same_new hb _)) (kvs := wdK D) (by rw [upd_ne nab]; exact ha) _
  refine ⟨_, rfl, a, wdK D, rfl, by rw [upd_ne nab]; exact ha, fun o => ?_⟩
  have hso : SameB a H (upd (upd H b (.dK [])) a (.frz o (.dK (wdK D)))) := ⟨fun c u n z => by rw [upd_ne n, upd_ne (ne_of_none z hb)]; exact z, Nat.le_refl _⟩
  refine for_dict (a := a) (o := o) (kvs := wdK D) (fun i σ H2 => ∃ (D2 : WD) (x3 x4 x5 : Option V), σ = [some (.ref g), some (.ref a), some (.ref b), x3, x4, x5] ∧ SameB a H H2 ∧ H2 a = some (.frz o (.dK (wdK D))) ∧ H2 b = some (.dK (wdK D2)) ∧ GAt H2 g L T ∧ (wkeys D2).Nodup ∧ (∀ q ∈ wkeys D2, ∃ r ∈ wkeys D, q.Sublist r ∧ q.length + 1 = r.length) ∧ wsum (TR.cnt (tiedB T)) D2 = wsum (TR.cnt (tiedB T)) (D.take i))
    ⟨[], none, none, none, rfl, hso, upd_same, by rw [upd_ne nab.symm, upd_same]; rfl, nag rfl, List.nodup_nil, (fun _ z => nomatch z), rfl⟩ (fun _ _ _ ⟨_, _, _, _, _, _, h, _⟩ => h) ?_ ?_
  · rintro i kv σ H2 hkv ⟨D2, x3, x4, x5, rfl, sB, h2a, h2b, GA2, nd2, hf2, hs2⟩
    obtain ⟨⟨r, m⟩, hr0, rfl⟩ : ∃ p, D[i]? = some p ∧ kv = (Sum.inr (S p.1), V.int (p.2 : Int)) := by
      unfold wdK at hkv
      rw [List.getElem?_map] at hkv
      cases e : D[i]? with
      | none => rw [e] at hkv; cases hkv
      | some p => rw [e] at hkv; exact ⟨p, rfl, (Option.some.inj hkv).symm⟩
    have hrm : (r, m) ∈ D := List.mem_of_getElem? hr0
    have hrk : r ∈ wkeys D := List.mem_map.mpr ⟨_, hrm, rfl⟩
    have hrl : r.length ≤ 12 := Nat.le_trans (hsub r hrk).length_le hw
    have hrv := wval_some nd hrm
    refine ⟨_, rfl, _, rfl, g, L, T, r, rfl, G, GA2, by omega, fun l F n H3 s3 hl0 hl hn up hF => ⟨l, rfl, ⟨_, SqL.of hl⟩, ?_⟩⟩
    have nlb : l ≠ b := fun z => by subst z; rw [hl0] at h2b; cases h2b
    refine for_list (K := K) (a := l) (xs := F.map (oV n)) (fun j σ H5 => ∃ (D5 : WD) (x4 x5 : Option V), σ = [some (.ref g), some (.ref a), some (.ref b), some (tx r), x4, x5] ∧ SameB a H H5 ∧ H5 a = some (.frz o (.dK (wdK D))) ∧ H5 b = some (.dK (wdK D5)) ∧ GAt H5 g L T ∧ H5 l = some (.lst (F.map (oV n))) ∧ n ≤ H5.clk ∧ (wkeys D5).Nodup ∧ (∀ q ∈ wkeys D5, ∃ r ∈ wkeys D, q.Sublist r ∧ q.length + 1 = r.length) ∧ wsum (TR.cnt (tiedB T)) D5 = wsum (TR.cnt (tiedB T)) (D.take i) + m * ((F.take j).map fun c => TR.cnt (tiedB T) (r.erase c)).sum)
      ⟨D2, x4, x5, rfl, sB.same s3, s3 _ _ h2a, s3 _ _ h2b, GA2.same s3, hl, hn, nd2, hf2, by rw [hs2]; simp⟩ (fun _ _ _ _ ⟨_, _, _, _, _, _, _, _, h, _⟩ => SqL.of h) ?_ ?_
    · rintro j x σ H5 hx ⟨D5, y4, y5, rfl, sB5, h5a, h5b, GA5, h5l, hn5, nd5, hf5, hs5⟩
      obtain ⟨c, hc, rfl⟩ : ∃ c, F[j]? = some c ∧ x = oV n c := by
        rw [List.getElem?_map] at hx
        cases e : F[j]? with
        | none => rw [e] at hx; cases hx
        | some c => rw [e] at hx; exact ⟨c, rfl, (Option.some.inj hx).symm⟩
      have hcr : c ∈ r := ((hF c).mp (List.mem_of_getElem? hc)).mem
      obtain ⟨u, v, e, hu, z⟩ := cut_at hcr
      refine ⟨_, rfl, _, rfl, u, v, c, n, by rw [← e]; rfl, hn5, GA5.ck, hu, by rw [← e]; omega, fun H6 s6 => ?_⟩
      rw [← z]
      have h6b := s6 _ _ h5b
      have h6a := s6 _ _ h5a
      obtain ⟨y, D6, hy, hp, nd6, hk6, hs6⟩ := wput nd5 (r.erase c) m
      have hf6 : ∀ q ∈ wkeys D6, ∃ r ∈ wkeys D, q.Sublist r ∧ q.length + 1 = r.length := fun q hq => by
        rcases hk6 q hq with rfl | h
        · have h1 := List.length_erase_of_mem hcr
          have h2 := List.length_pos_of_mem hcr
          exact ⟨r, hrk, List.erase_sublist, by omega⟩
        · exact hf5 q h
      have hsm : ∀ {D7 : WD}, (wkeys D7).Nodup → (∀ q ∈ wkeys D7, ∃ r ∈ wkeys D, q.Sublist r ∧ q.length + 1 = r.length) → D7.length ≤ 4096 := fun h1 h2 => wd_small h1 (fun q hq => let ⟨r, a1, a2, _⟩ := h2 q hq; a2.trans (hsub r a1)) hw
      have hl5 := hsm nd5 hf5
      refine ⟨_, rfl, b, rfl, .inl ⟨_, .inl h6b⟩, _, rfl, _, DGet.k (k := Sum.inr (S (r.erase c))) h6b, _, rfl, _, rfl, a, _, rfl, .inl ⟨_, Sum.inr (S r), .inr ⟨o, h6a⟩, rfl, hrv.symm⟩, _, _, hy, rfl, ?_⟩
      refine ⟨_, rfl, _, rfl, b, _, rfl, DPut.k (k := Sum.inr (S (r.erase c))) h6b (by rw [wd_len]; exact Nat.lt_of_lt_of_le (by omega : D5.length < 5000) (small (by decide))), ?_⟩
      rw [hp]
      refine ⟨D6, _, _, rfl, (sB5.same s6).put hb _, by rw [upd_ne nab]; exact h6a, upd_same, (GA5.same s6).put h6b _, by rw [upd_ne nlb]; exact s6 _ _ h5l, Nat.le_trans hn5 s6.ck, nd6, hf6, ?_⟩
      rw [hs6, hs5, List.take_add_one, hc, List.map_append, List.sum_append, Nat.mul_add, Nat.add_assoc]
      rfl
    · rintro σ H5 ⟨D5, y4, y5, rfl, sB5, h5a, h5b, GA5, h5l, hn5, nd5, hf5, hs5⟩
      rw [List.length_map, List.take_length, front_sum Td up hF (hne r hrk)] at hs5
      refine ⟨D5, _, _, _, rfl, sB5, h5a, h5b, GA5, nd5, hf5, ?_⟩
      rw [hs5, List.take_add_one, hr0, wsum_app]
      rfl
  · rintro σ H2 ⟨D2, x3, x4, x5, rfl, sB, h2a, h2b, GA2, nd2, hf2, hs2⟩
    rw [wd_len, List.take_length] at hs2
    exact ⟨_, rfl, q b D2 H2 sB hb h2b nd2 hf2 hs2⟩
abbrev sCount : Stmt := top 10
theorem scCount : FnScope ["ground", "word", "ways", "step"] ["ground", "word"] (defScope sCount) := ⟨rfl, rfl, rfl, by decide +kernel, rfl, by decide +kernel, by decide +kernel⟩
theorem ok_Count {f : Addr} {fd : FuncData} (F : Fun K "count_words" "count_words" sCount f fd)
    {fWays : Addr} {fdWays : FuncData} (GWays : FnOk P w K mg base CX0 5 fWays fdWays ["ground", "ways"] spWays) (bWays : Binds K fdWays ["ground", "ways"] []) (kWays : PySem.W.keepIn K (.ref fWays) = true) (mWays : mg "ways_one_letter_on" = some (.ref fWays))
    (m_len : mg "len" = none) (m_range : mg "range" = none)   : FnOk P w K mg base CX0 6 f fd ["ground", "word"] spCount := by
  refine F.okQ scCount (fun vs H Q E h => ?_) (fun cdv A outer s H vs Q E hr h => ?_)
  · obtain ⟨g, L, T, wd, rfl, _⟩ := h
    rfl
  obtain ⟨g, L, T, wd, rfl, G, GA, hw, lw, q⟩ := h
  refine ⟨_, (qss_cons (qs_set (i := 2) scCount.nd rfl (Or.inl rfl) (qe_disp1 (qv 1) qe_int))
    (qss_cons (qs_for PassesOwn.never rfl (qi_range1 rfl m_range (qa_cons (qe_callB call_len_str rfl m_len PySem.boot_len (qa_cons (qv 1) qa_nil)) qa_nil)) (qg_name (i := 3) scCount.nd rfl (Or.inl rfl))
      (qss_one (qs_set (i := 2) scCount.nd rfl (Or.inl rfl) (qe_call GWays hr rfl mWays kWays bWays .nil pass0 (qa_cons (qv 0) (qa_cons (qv 2) qa_nil))))))
    (qss_one (qs_ret (qe_dget (room1 hr) (qv 2) qe_str))))), ?_⟩
  have Td := td_ok T
  rw [e_empty]
  intro a ha
  refine ⟨_, rfl, upd_same, [(Sum.inr (S wd), V.int 1)], rfl, (by show 1 ≤ 15; decide), ?_⟩
  have e0 : mergeK [] [((Sum.inr (S wd) : Key), V.int 1)] = wdK [(wd, 1)] := rfl
  rw [e0]
  have s0 : Same H (upd (upd H a (.dK [])) a (.dK (wdK [(wd, 1)]))) := ⟨fun c u z => by rw [upd_ne (ne_of_none z ha), upd_ne (ne_of_none z ha)]; exact z, Nat.le_refl _⟩
  refine ⟨_, rfl, S wd, rfl, by rw [S_len]; exact small (by omega), ?_⟩
  rw [S_len]
  refine ⟨_, rfl, by omega, by have : ((100000 : Nat) : Int) ≤ sizeLine := Int.ofNat_le.mpr (small (by decide)); omega, ?_⟩
  rw [show ((wd.length : Nat) : Int).toNat = wd.length from Int.toNat_natCast _]
  refine for_range (lo := 0) (n := wd.length) (fun i σ H2 => ∃ (a2 : Addr) (D2 : WD) (x3 : Option V), σ = [some (.ref g), some (tx wd), some (.ref a2), x3] ∧ Same H H2 ∧ H a2 = none ∧ H2 a2 = some (.dK (wdK D2)) ∧ (wkeys D2).Nodup ∧ (∀ r ∈ wkeys D2, r.Sublist wd ∧ r.length + i = wd.length) ∧ wsum (TR.cnt (tiedB T)) D2 = TR.cnt (tiedB T) wd)
    ⟨a, _, none, rfl, s0, ha, upd_same, by simp [wkeys], fun r hr => ?_, ?_⟩ ?_ ?_
  · have : r = wd := by simpa [wkeys] using hr
    subst this
    exact ⟨List.Sublist.refl _, rfl⟩
  · show 1 * _ + 0 = _
    rw [Nat.one_mul]
    rfl
  · rintro i σ H2 hi ⟨a2, D2, x3, rfl, sm, ha2, h2, nd2, hk2, hs2⟩
    refine ⟨_, rfl, _, rfl, g, a2, L, T, D2, wd, rfl, G, GA.same sm, h2, nd2, fun r hr => (hk2 r hr).1, fun r hr z => ?_, lw, fun b D3 H3 s3 hb h3 nd3 hf3 hs3 => ?_⟩
    · have := (hk2 r hr).2
      rw [z] at this
      simp at this
      omega
    refine ⟨b, D3, _, rfl, SameB.to sm ha2 s3, sm.free hb, h3, nd3, fun q hq => ?_, by rw [hs3, hs2]⟩
    obtain ⟨r, hr, h4, h5⟩ := hf3 q hq
    obtain ⟨h6, h7⟩ := hk2 r hr
    exact ⟨h4.trans h6, by omega⟩
  · rintro σ H2 ⟨a2, D2, x3, rfl, sm, ha2, h2, nd2, hk2, hs2⟩
    obtain ⟨n, rfl⟩ := wd_end (f := TR.cnt (tiedB T)) nd2 (fun r hr => List.length_eq_zero_iff.mp (by have := (hk2 r hr).2; omega)) (by rw [hs2]; exact cnt_pos Td _ rfl)
    have hn : n = TR.cnt (tiedB T) wd := by
      rw [← hs2]
      show n = n * 1 + 0
      omega
    subst hn
    exact ⟨_, rfl, a2, _, rfl, .inl ⟨_, Sum.inr (S []), .inl h2, rfl, (wval_some nd2 List.mem_cons_self).symm⟩, q H2 sm⟩
abbrev sOn : Stmt := top 9
theorem scOn : FnScope ["ground", "rows", "longer", "row", "letter"] ["ground", "rows"] (defScope sOn) := ⟨rfl, rfl, rfl, by decide +kernel, rfl, by decide +kernel, by decide +kernel⟩
theorem ok_On {f : Addr} {fd : FuncData} (F : Fun K "one_letter_on" "one_letter_on" sOn f fd)
    {fFirsts : Addr} {fdFirsts : FuncData} (GFirsts : FnOk P w K mg base CX0 4 fFirsts fdFirsts ["ground", "word"] spFirsts) (bFirsts : Binds K fdFirsts ["ground", "word"] []) (kFirsts : PySem.W.keepIn K (.ref fFirsts) = true) (mFirsts : mg "firsts" = some (.ref fFirsts))
    {fWithout : Addr} {fdWithout : FuncData} (GWithout : FnOk P w K mg base CX0 1 fWithout fdWithout ["word", "letter"] spWithout) (bWithout : Binds K fdWithout ["word", "letter"] []) (kWithout : PySem.W.keepIn K (.ref fWithout) = true) (mWithout : mg "without" = some (.ref fWithout))
       : FnOk P w K mg base CX0 5 f fd ["ground", "rows"] spOn := by
  refine F.okQ scOn (fun vs H Q E h => ?_) (fun cdv A outer s H vs Q E hr h => ?_)
  · obtain ⟨g, a, L, T, R, rfl, _⟩ := h
    rfl
  obtain ⟨g, a, L, T, R, rfl, G, GA, ha, hR, hbd, hlen, q⟩ := h
  have hr1 : Room 1 _ := hr.mono (by decide)
  refine ⟨_, (qss_cons (qs_set (i := 2) scOn.nd rfl (Or.inl rfl) (qe_lst qa_nil))
    (qss_cons (qs_for PassesOwn.never rfl (qi_list K (qv 1)) (qg_name (i := 3) scOn.nd rfl (Or.inl rfl))
      (qss_one (qs_for PassesOwn.never rfl (qi_list K (qe_call GFirsts hr rfl mFirsts kFirsts bFirsts .nil pass0 (qa_cons (qv 0) (qa_cons (qe_ix (r := rIxT K) ix_tup (qv 3) qe_int) qa_nil)))) (qg_name (i := 4) scOn.nd rfl (Or.inl rfl))
      (qss_one (qs_expr (qe_bm K PySem.F.plainAttrs_list PySem.F.slot_list_append PySem.F.type_list_append mt_append (qv 2) (qa_cons (qe_tup (qa_cons (qe_op op_add_str (qe_ix (r := rIxT K) ix_tup (qv 3) qe_int) (qe_wk (qv 4))) (qa_cons (qe_call GWithout hr1 rfl mWithout kWithout bWithout .nil pass0 (qa_cons (qe_ix (r := rIxT K) ix_tup (qv 3) qe_int) (qa_cons (qv 4) qa_nil))) qa_nil))) qa_nil)))))))
    (qss_one (qs_ret (qv 2))))), ?_⟩
  have Td := td_ok T
  refine ⟨by show 0 ≤ sizeLine; omega, fun b hb => ?_⟩
  have s0 : Same H (upd H b (.lst [])) := same_new hb _
  refine ⟨_, rfl, a, rfl, ⟨_, SqL.of (s0 _ _ ha)⟩, ?_⟩
  refine for_list (K := K) (a := a) (xs := R.map fun e => V.ref e.1) (fun i σ H2 => ∃ (R2 : List (Addr × List Nat × List Nat)) (x3 x4 : Option V), σ = [some (.ref g), some (.ref a), some (.ref b), x3, x4] ∧ Same H H2 ∧ H2 b = some (.lst (R2.map fun e => V.ref e.1)) ∧ (∀ e ∈ R2, H2 e.1 = some (.tup [tx e.2.1, tx e.2.2])) ∧ R2.map (·.2) = TR.nxt (tiedB T) ((R.take i).map (·.2)))
    ⟨[], none, none, rfl, s0, upd_same, (fun _ z => nomatch z), rfl⟩ (fun i σ H2 _ ⟨_, _, _, _, s2, _⟩ => SqL.of (s2 _ _ ha)) ?_ ?_
  · rintro i x σ H2 hx ⟨R2, x3, x4, rfl, sm, hb2, hR2, hn⟩
    obtain ⟨e, he, rfl⟩ := get_map hx
    have hem : e ∈ R := List.mem_of_getElem? he
    obtain ⟨l1, l2, hL⟩ := hbd e hem
    have hlt : ∀ c ∈ e.2.2, c < 123 := fun c hc => by have := (G.le.az c (hL c hc)).2; omega
    have he2 := sm _ _ (hR e hem)
    refine ⟨_, rfl, _, rfl, e.1, _, 1, tx e.2.2, rfl, rfl, SqT.of he2, rfl, g, L, T, e.2.2, rfl, G, GA.same sm, l2, fun l F n H3 s3 hl0 hl hk up hF => ⟨l, rfl, ⟨_, SqL.of hl⟩, ?_⟩⟩
    have eF := TR.fl_eq Td hlt up hF
    have hFl := front_le up hF
    have nlb : l ≠ b := fun z => by subst z; rw [hl0] at hb2; cases hb2
    refine for_list (K := K) (a := l) (xs := F.map (oV n)) (fun j σ H5 => ∃ (R5 : List (Addr × List Nat × List Nat)) (x4 : Option V), σ = [some (.ref g), some (.ref a), some (.ref b), some (.ref e.1), x4] ∧ Same H H5 ∧ H5 l = some (.lst (F.map (oV n))) ∧ n ≤ H5.clk ∧ H5 b = some (.lst (R5.map fun e => V.ref e.1)) ∧ (∀ e ∈ R5, H5 e.1 = some (.tup [tx e.2.1, tx e.2.2])) ∧ R5.map (·.2) = TR.nxt (tiedB T) ((R.take i).map (·.2)) ++ (F.take j).map fun c => (e.2.1 ++ [c], e.2.2.erase c))
      ⟨R2, x4, rfl, sm.trans s3, hl, hk, s3 _ _ hb2, fun f hf => s3 _ _ (hR2 f hf), by rw [hn]; simp⟩ (fun _ _ _ _ ⟨_, _, _, _, h, _⟩ => SqL.of h) ?_ ?_
    · rintro j x σ H5 hx ⟨R5, y4, rfl, sm5, hl5, hk5, hb5, hR5, hn5⟩
      obtain ⟨c, hc, rfl⟩ := get_map hx
      have hcr : c ∈ e.2.2 := ((hF c).mp (List.mem_of_getElem? hc)).mem
      obtain ⟨u, v, e1, hu, z⟩ := cut_at hcr
      have hee := sm5 _ _ (hR e hem)
      refine ⟨_, rfl, .inl ⟨rfl, _, SqL.of hb5⟩, _, rfl, e.1, _, 0, tx e.2.1, rfl, rfl, SqT.of hee, rfl, _, rfl, _, _, rfl, rfl, by rw [S_len, S_len]; exact small (by show _ + 1 ≤ 100000; omega), ?_⟩
      rw [S_app]
      refine ⟨_, rfl, e.1, _, 1, tx e.2.2, rfl, rfl, SqT.of hee, rfl, _, rfl, u, v, c, n, by rw [← e1]; rfl, hk5, Nat.le_trans GA.ck sm5.ck, hu, by rw [← e1]; exact l2, fun H6 s6 => ?_⟩
      rw [← z]
      refine ⟨by show 2 ≤ sizeLine; exact small (by decide), fun tA htA => ?_⟩
      have sT : Same H6 (upd H6 tA (.tup [tx (e.2.1 ++ [c]), tx (e.2.2.erase c)])) := same_new htA _
      have s7 := s6.trans sT
      have hb7 := s7 _ _ hb5
      have htb : tA ≠ b := fun z => by subst z; rw [s6 _ _ hb5] at htA; cases htA
      have hlen5 : R5.length ≤ 99000 := by
        have h1 := congrArg List.length hn5
        rw [List.length_map, List.length_append, List.length_map, List.length_take] at h1
        have h2 := TR.nxt_len (td := tiedB T) ((R.take i).map (·.2))
        rw [List.length_map, List.length_take] at h2
        have h3 : min i R.length ≤ 800 := by omega
        omega
      refine ⟨b, _, _, rfl, rfl, hb7, by rw [List.length_map]; exact Nat.lt_of_lt_of_le (by omega : R5.length < 99500) (small (by decide)), R5 ++ [(tA, e.2.1 ++ [c], e.2.2.erase c)], _, rfl, same_put hb (sm5.trans s7) _, by rw [upd_ne (fun y => nlb y)]; exact s7 _ _ hl5, Nat.le_trans hk5 s7.ck, by rw [upd_same, List.map_append]; rfl, fun f hf => ?_, ?_⟩
      · rcases List.mem_append.mp hf with y | y
        · have h1 := s7 _ _ (hR5 f y)
          have h2 : f.1 ≠ b := fun y => by rw [y, hb7] at h1; cases h1
          rw [upd_ne h2]
          exact h1
        · have y := List.mem_singleton.mp y
          subst y
          show upd (upd H6 tA _) b _ tA = _
          rw [upd_ne htb, upd_same]
      · rw [List.map_append, hn5, List.take_add_one, hc, List.map_append, List.append_assoc]
        rfl
    · rintro σ H5 ⟨R5, y4, rfl, sm5, hl5, hk5, hb5, hR5, hn5⟩
      rw [List.length_map, List.take_length] at hn5
      refine ⟨R5, _, _, rfl, sm5, hb5, hR5, ?_⟩
      have et : (R.take (i + 1)).map (·.2) = (R.take i).map (·.2) ++ [e.2] := by
        rw [List.take_add_one, he, List.map_append]
        rfl
      rw [hn5, et, TR.nxt_snoc, ← eF]
  · rintro σ H2 ⟨R2, x3, x4, rfl, sm, hb2, hR2, hn⟩
    rw [List.length_map, List.take_length] at hn
    exact ⟨_, rfl, q b R2 H2 sm hb2 hR2 hn⟩
abbrev sWords : Stmt := top 8
theorem scWords : FnScope ["ground", "word", "rows", "step"] ["ground", "word"] (defScope sWords) := ⟨rfl, rfl, rfl, by decide +kernel, rfl, by decide +kernel, by decide +kernel⟩
theorem ndWords_0 : (["row"] : List Str).Nodup := by decide +kernel
theorem ok_Words {f : Addr} {fd : FuncData} (F : Fun K "words_of" "words_of" sWords f fd)
    {fOn : Addr} {fdOn : FuncData} (GOn : FnOk P w K mg base CX0 5 fOn fdOn ["ground", "rows"] spOn) (bOn : Binds K fdOn ["ground", "rows"] []) (kOn : PySem.W.keepIn K (.ref fOn) = true) (mOn : mg "one_letter_on" = some (.ref fOn))
    (m_len : mg "len" = none) (m_range : mg "range" = none) (m_tuple : mg "tuple" = none)   : FnOk P w K mg base CX0 6 f fd ["ground", "word"] spWords := by
  refine F.okQ scWords (fun vs H Q E h => ?_) (fun cdv A outer s H vs Q E hr h => ?_)
  · obtain ⟨g, L, T, wd, rfl, _⟩ := h
    rfl
  obtain ⟨g, L, T, wd, rfl, G, GA, hw, hz, q⟩ := h
  refine ⟨_, (qss_cons (qs_set (i := 2) scWords.nd rfl (Or.inl rfl) (qe_lst (qa_cons (qe_tup (qa_cons qe_str (qa_cons (qv 1) qa_nil))) qa_nil)))
    (qss_cons (qs_for PassesOwn.never rfl (qi_range1 rfl m_range (qa_cons (qe_callB call_len_str rfl m_len PySem.boot_len (qa_cons (qv 1) qa_nil)) qa_nil)) (qg_name (i := 3) scWords.nd rfl (Or.inl rfl))
      (qss_one (qs_set (i := 2) scWords.nd rfl (Or.inl rfl) (qe_call GOn hr rfl mOn kOn bOn .nil pass0 (qa_cons (qv 0) (qa_cons (qv 2) qa_nil))))))
    (qss_one (qs_ret (qe_callTy (r := rTupOf K) c_tuple_of rfl m_tuple (by decide +kernel) (qa_cons (qe_comp (N := ["row"]) (k := 1) (fr := []) (by kernel_rfl) rfl (qi_list K (qv 2)) (fun _ _ _ _ _ => qg_name (i := 0) ndWords_0 rfl (Or.inl rfl)) (fun _ _ _ _ _ => qts_nil) (fun _ _ _ _ _ => (qe_ix (r := rIxT K) ix_tup (qv 0) qe_int))) qa_nil)))))), ?_⟩
  have Td := td_ok T
  have hlt : ∀ c ∈ wd, c < 123 := fun c hc => by have := (G.le.az c (hw c hc)).2; omega
  have hLw : (TR.lw (tiedB T) wd.length wd).length ≤ 720 := Nat.le_trans (TR.lw_len Td rfl hlt) (TR.fac_six hz)
  rw [e_empty]
  refine ⟨_, rfl, by show 2 ≤ sizeLine; exact small (by decide), fun tA htA => ⟨by show 1 ≤ sizeLine; exact small (by decide), fun lA hlA => ?_⟩⟩
  have ntl : tA ≠ lA := fun z => by subst z; rw [upd_same] at hlA; cases hlA
  have s0 : Same H (upd (upd H tA (.tup [tx [], tx wd])) lA (.lst [.ref tA])) := (same_new htA _).trans (same_new hlA _)
  refine ⟨_, rfl, S wd, rfl, by rw [S_len]; exact small (by omega), ?_⟩
  rw [S_len]
  refine ⟨_, rfl, by omega, by omega, ?_⟩
  rw [show ((wd.length : Nat) : Int).toNat = wd.length from Int.toNat_natCast _]
  have hbig : ∀ {i : Nat} {R : List (Addr × List Nat × List Nat)}, (∀ p ∈ R.map (·.2), p.1.length ≤ i ∧ p.2.length + i = wd.length ∧ ∀ c ∈ p.2, c ∈ L) → TR.dn (tiedB T) (wd.length - i) (R.map (·.2)) = TR.lw (tiedB T) wd.length wd → R.length ≤ 720 := fun {i R} hp hd => by
    have h1 := TR.dn_len Td (k := wd.length - i) (rows := R.map (·.2)) fun p hp' => ⟨by have := (hp p hp').2.1; omega, fun c hc => by have := (G.le.az c ((hp p hp').2.2 c hc)).2; omega⟩
    rw [hd, List.length_map] at h1
    omega
  refine for_range (lo := 0) (n := wd.length) (fun i σ H2 => ∃ (a2 : Addr) (R : List (Addr × List Nat × List Nat)) (x3 : Option V), σ = [some (.ref g), some (tx wd), some (.ref a2), x3] ∧ Same H H2 ∧ H2 a2 = some (.lst (R.map fun e => V.ref e.1)) ∧ (∀ e ∈ R, H2 e.1 = some (.tup [tx e.2.1, tx e.2.2])) ∧ (∀ p ∈ R.map (·.2), p.1.length ≤ i ∧ p.2.length + i = wd.length ∧ ∀ c ∈ p.2, c ∈ L) ∧ TR.dn (tiedB T) (wd.length - i) (R.map (·.2)) = TR.lw (tiedB T) wd.length wd)
    ⟨lA, [(tA, [], wd)], none, rfl, s0, upd_same, fun e he => ?_, fun p hp => ?_, ?_⟩ ?_ ?_
  · rw [List.mem_singleton.mp he]
    show upd (upd H tA _) lA _ tA = _
    rw [upd_ne ntl, upd_same]
  · rw [List.mem_singleton.mp hp]
    exact ⟨Nat.le_refl _, rfl, hw⟩
  · rw [Nat.sub_zero]
    simp [TR.dn]
  · rintro i σ H2 hi ⟨a2, R, x3, rfl, sm, h2, hR, hp, hd⟩
    have hb : ∀ e ∈ R, e.2.1.length ≤ 60 ∧ e.2.2.length ≤ 60 ∧ ∀ c ∈ e.2.2, c ∈ L := fun e he => by
      obtain ⟨z1, z2, z3⟩ := hp e.2 (List.mem_map.mpr ⟨e, he, rfl⟩)
      exact ⟨by omega, by omega, z3⟩
    have hRl := hbig hp hd
    refine ⟨_, rfl, _, rfl, g, a2, L, T, R, rfl, G, GA.same sm, h2, hR, hb, by omega, fun b R' H3 s3 hb3 hR3 hn3 => ?_⟩
    refine ⟨b, R', _, rfl, sm.trans s3, hb3, hR3, ?_, ?_⟩
    · rw [hn3]
      intro p hp'
      obtain ⟨q0, hq0, hc0⟩ := List.mem_flatMap.mp hp'
      obtain ⟨c, hc, rfl⟩ := List.mem_map.mp hc0
      obtain ⟨z1, z2, z3⟩ := hp q0 hq0
      have hcm := ((TR.mem_fl Td fun d hd => by have := (G.le.az d (z3 d hd)).2; omega).mp hc).mem
      have h1 := List.length_erase_of_mem hcm
      have h2 := List.length_pos_of_mem hcm
      refine ⟨?_, ?_, fun d hd => z3 d (List.mem_of_mem_erase hd)⟩
      · show (q0.1 ++ [c]).length ≤ i + 1
        rw [List.length_append]
        show _ + 1 ≤ _
        omega
      · show (q0.2.erase c).length + (i + 1) = _
        omega
    · rw [hn3, TR.dn_nxt, show wd.length - (i + 1) + 1 = wd.length - i by omega]
      exact hd
  · rintro σ H2 ⟨a2, R, x3, rfl, sm, h2, hR, hp, hd⟩
    have hRl := hbig hp hd
    rw [Nat.sub_self, TR.dn_zero, List.map_map] at hd
    refine ⟨_, rfl, a2, rfl, ⟨_, SqL.of h2⟩, fun D hD => ?_⟩
    refine comp_val (α := Addr × List Nat × List Nat) (as_ := R) (fr := []) (by rw [List.length_map]) (yields_list (SqL.of h2)) hD (by rw [List.length_map]; exact small (by omega)) (fun _ => true) (fun e => tx e.2.1) (fun j x d H' Qb hx hd sm' k => k H' (Same.refl _)) (fun j x e H' Qv hx hd' _ sm' k => ?_) fun H3 s3 hd3 => ?_
    · cases getI_map hx hd'
      have h1 := sm' _ _ (hR e (List.mem_of_getElem? hd'))
      exact ⟨_, rfl, e.1, _, 0, tx e.2.1, rfl, rfl, SqT.of h1, rfl, k H' (Same.refl _)⟩
    · rw [filter_yes] at hd3
      refine ⟨D, _, rfl, .inl ⟨SqL.of hd3, fun p hp' => ?_⟩⟩
      have e3 : (R.map fun e => tx e.2.1) = (TR.lw (tiedB T) wd.length wd).map tx := by
        rw [← hd, List.map_map]
        rfl
      rw [e3]
      exact q p _ ((sm.trans s3).trans (same_new hp' _)) upd_same
end
end K10
namespace K10
open PySem L2 HW PyProof.Rows
section
variable {P : Program} {w : World} {K : PySem.W.Frag} {mg : Str → Option Value} {base : Heap}
abbrev sLaw : Stmt := top 25
theorem scLaw : FnScope ["_law_script", "_law_ground_here", "_law_cell_here", "_law_word_here", "_law_found", "_law_known", "_law_one", "_law_at", "_law_other"] ["_law_script"] (defScope sLaw) := ⟨rfl, rfl, rfl, by decide +kernel, rfl, by decide +kernel, by decide +kernel⟩
theorem ndLaw_0 : (["_law_one"] : List Str).Nodup := by decide +kernel
theorem ok_Law {f : Addr} {fd : FuncData} (F : Fun K "law" "law" sLaw f fd)
    {fGround : Addr} {fdGround : FuncData} (GGround : FnOk P w K mg base CX0 3 fGround fdGround ["_law_script"] (spGround K)) (bGround : Binds K fdGround ["_law_script"] []) (kGround : PySem.W.keepIn K (.ref fGround) = true) (mGround : mg "_law_ground" = some (.ref fGround))
    {fWord : Addr} {fdWord : FuncData} (GWord : FnOk P w K mg base CX0 2 fWord fdWord ["_law_letters_here", "_law_seed", "_law_most"] spWord) (bWord : Binds K fdWord ["_law_letters_here", "_law_seed", "_law_most"] []) (kWord : PySem.W.keepIn K (.ref fWord) = true) (mWord : mg "_law_word" = some (.ref fWord))
    {fWords : Addr} {fdWords : FuncData} (GWords : FnOk P w K mg base CX0 6 fWords fdWords ["ground", "word"] spWords) (bWords : Binds K fdWords ["ground", "word"] []) (kWords : PySem.W.keepIn K (.ref fWords) = true) (mWords : mg "words_of" = some (.ref fWords))
    {fSame : Addr} {fdSame : FuncData} (GSame : FnOk P w K mg base CX0 2 fSame fdSame ["_law_ground_here", "_law_one", "_law_other"] spSame) (bSame : Binds K fdSame ["_law_ground_here", "_law_one", "_law_other"] []) (kSame : PySem.W.keepIn K (.ref fSame) = true) (mSame : mg "_law_same" = some (.ref fSame))
    {fLTied : Addr} {fdLTied : FuncData} (GLTied : FnOk P w K mg base CX0 1 fLTied fdLTied ["_law_ground_here", "_law_one", "_law_other"] spTied) (bLTied : Binds K fdLTied ["_law_ground_here", "_law_one", "_law_other"] []) (kLTied : PySem.W.keepIn K (.ref fLTied) = true) (mLTied : mg "_law_tied" = some (.ref fLTied))
    {fCount : Addr} {fdCount : FuncData} (GCount : FnOk P w K mg base CX0 6 fCount fdCount ["ground", "word"] spCount) (bCount : Binds K fdCount ["ground", "word"] []) (kCount : PySem.W.keepIn K (.ref fCount) = true) (mCount : mg "count_words" = some (.ref fCount))
    {fWhole : Addr} {fdWhole : FuncData} (GWhole : FnOk P w K mg base CX0 1 fWhole fdWhole ["_law_found"] spWhole) (bWhole : Binds K fdWhole ["_law_found"] []) (kWhole : PySem.W.keepIn K (.ref fWhole) = true) (mWhole : mg "_law_whole" = some (.ref fWhole))
    {fPlain : Addr} {fdPlain : FuncData} (GPlain : FnOk P w K mg base CX0 5 fPlain fdPlain ["ground", "word"] spPlain) (bPlain : Binds K fdPlain ["ground", "word"] []) (kPlain : PySem.W.keepIn K (.ref fPlain) = true) (mPlain : mg "plain" = some (.ref fPlain))
    (m_dict : mg "dict" = none) (m_isinstance : mg "isinstance" = none) (m_len : mg "len" = none) (m_list : mg "list" = none) (m_range : mg "range" = none) (m_set : mg "set" = none) (m_sorted : mg "sorted" = none) (m_tuple : mg "tuple" = none)   : FnOk P w K mg base CX0 8 f fd ["_law_script"] (spLaw K) := by
  refine F.okQ scLaw (fun vs H Q E h => ?_) (fun cdv A outer s H vs Q E hr h => ?_)
  · obtain ⟨a, ns, rfl, _⟩ := h
    rfl
  obtain ⟨a, ns, rfl, hS, h63, q⟩ := h
  have hr1 : Room 1 _ := hr.mono (by decide)
  have hr2 : Room 2 _ := hr.mono (by decide)
  have hr3 : Room 3 _ := hr.mono (by decide)
  have hr5 : Room 5 _ := hr.mono (by decide)
  have hr6 : Room 6 _ := hr.mono (by decide)
  refine ⟨_, (qss_cons (qs_set (i := 1) scLaw.nd rfl (Or.inl rfl) (qe_call GGround hr3 rfl mGround kGround bGround .nil pass0 (qa_cons (qv 0) qa_nil)))
    (qss_cons (qs_for PassesOwn.never rfl (qi_list K (qe_slice (r := rSlL K) sl_list (qv 0) (qo_some qe_int) (qo_some qe_int))) (qg_name (i := 2) scLaw.nd rfl (Or.inl rfl))
      (qss_cons (qs_set (i := 3) scLaw.nd rfl (Or.inl rfl) (qe_call GWord hr2 rfl mWord kWord bWord .nil pass0 (qa_cons (qe_ix (r := rIxT K) ix_tup (qv 1) qe_int) (qa_cons (qv 2) (qa_cons qe_int qa_nil)))))
    (qss_cons (qs_set (i := 4) scLaw.nd rfl (Or.inl rfl) (qe_call GWords hr6 rfl mWords kWords bWords .nil pass0 (qa_cons (qv 1) (qa_cons (qv 3) qa_nil))))
    (qss_cons (qs_if (qw_pt (qw_or (qt_not (qt_val (qe_callB (r := rIsInst K) c_isinst rfl m_isinstance (by decide +kernel) (qa_cons (qv 4) (qa_cons (qe_bltn (v := .ty "tuple") rfl m_tuple (by decide +kernel) rfl) qa_nil))))) (qw_or (qt_cmp (r := rNeD K) (o_neD hr.units) (qe_callTy (r := rListOf K) c_list_of rfl m_list (by decide +kernel) (qa_cons (qv 4) qa_nil)) (qe_callB (r := rSortedB P w) (c_sortedB rfl) rfl m_sorted boot_sorted (qa_cons (qe_callTy (r := rSetU K P w) (c_setU rfl) rfl m_set (by decide +kernel) (qa_cons (qv 4) qa_nil)) qa_nil)) (nomark _)) (qw_or1 (qt_cmp (r := rIn K true) op_notIn_seq (qv 3) (qv 4) rfl))))) (qss_one (qs_ret qe_bl)) qss_nil)
    (qss_cons (qs_set (i := 5) scLaw.nd rfl (Or.inl rfl) (qe_callTy (r := rDictP K) (c_dictP rfl) rfl m_dict (by decide +kernel) (qa_cons (qe_comp (N := ["_law_one"]) (k := 1) (fr := []) (by kernel_rfl) rfl (qi_tup K (qv 4)) (fun _ _ _ _ _ => qg_name (i := 0) ndLaw_0 rfl (Or.inl rfl)) (fun _ _ _ _ _ => qts_nil) (fun _ _ _ _ _ => (qe_tup (qa_cons (qv 0) (qa_cons qe_bl qa_nil))))) qa_nil)))
    (qss_cons (qs_for PassesOwn.never rfl (qi_tup K (qv 4)) (qg_name (i := 6) scLaw.nd rfl (Or.inl rfl))
      (qss_cons (qs_if (qt_not (qt_val (qe_call GSame hr2 rfl mSame kSame bSame .nil pass0 (qa_cons (qv 1) (qa_cons (qv 6) (qa_cons (qv 3) qa_nil)))))) (qss_one (qs_ret qe_bl)) qss_nil)
    (qss_one (qs_for PassesOwn.never rfl (qi_range1 rfl m_range (qa_cons (qe_op op_sub (qe_callB call_len_str rfl m_len PySem.boot_len (qa_cons (qv 6) qa_nil)) qe_int) qa_nil)) (qg_name (i := 7) scLaw.nd rfl (Or.inl rfl))
      (qss_cons (qs_set (i := 8) scLaw.nd rfl (Or.inl rfl) (qe_op op_add_str (qe_op op_add_str (qe_op op_add_str (qe_slice sl_str (qv 6) qo_none (qo_some (qv 7))) (qe_ix ix_str (qv 6) (qe_op op_add (qv 7) qe_int))) (qe_ix ix_str (qv 6) (qv 7))) (qe_slice sl_str (qv 6) (qo_some (qe_op op_add (qv 7) qe_int)) qo_none)))
    (qss_one (qs_if (qw_pt (qw_and (qt_not (qt_val (qe_call GLTied hr1 rfl mLTied kLTied bLTied .nil pass0 (qa_cons (qv 1) (qa_cons (qe_ix ix_str (qv 6) (qv 7)) (qa_cons (qe_ix ix_str (qv 6) (qe_op op_add (qv 7) qe_int)) qa_nil)))))) (qw_and1 (qt_cmp (r := rNotInD) (op_notInD (room1 hr)) (qv 8) (qv 5) rfl)))) (qss_one (qs_ret qe_bl)) qss_nil)))))))
    (qss_cons (qs_if (qw_pt (qw_or (qt_not (qt_val (qe_call GWhole hr1 rfl mWhole kWhole bWhole .nil pass0 (qa_cons (qe_call GCount hr6 rfl mCount kCount bCount .nil pass0 (qa_cons (qv 1) (qa_cons (qv 3) qa_nil))) qa_nil)))) (qw_or1 (qt_cmp op_ne (qe_call GCount hr6 rfl mCount kCount bCount .nil pass0 (qa_cons (qv 1) (qa_cons (qv 3) qa_nil))) (qe_callB (r := rLenSeq K) c_len_seq rfl m_len PySem.boot_len (qa_cons (qv 4) qa_nil)) (nomark _))))) (qss_one (qs_ret qe_bl)) qss_nil)
    (qss_one (qs_if (qt_cmp op_ne (qe_ix (r := rIxT K) ix_tup (qv 4) qe_int) (qe_call GPlain hr5 rfl mPlain kPlain bPlain .nil pass0 (qa_cons (qv 1) (qa_cons (qv 3) qa_nil))) (nomark _)) (qss_one (qs_ret qe_bl)) qss_nil)))))))))
    (qss_one (qs_ret qe_bl)))), ?_⟩
  refine ⟨_, rfl, a, ns, rfl, hS, fun L T g H1 s1 G GA => ?_⟩
  obtain ⟨t1, g1, _⟩ := id GA
  have hl5 := G.le.l5
  have hl1 := G.le.l1
  have Td := td_ok T
  refine ⟨_, rfl, 2, rfl, 5, rfl, a, _, rfl, s1.seq hS, fun cA hcA => ⟨cA, rfl, ⟨_, SqL.of upd_same⟩, ?_⟩⟩
  have sC : Same H1 (upd H1 cA (.lst (cutV (ns.map V.int) (some 2) (some 5)))) := same_new hcA _
  have hcC : upd H1 cA (.lst (cutV (ns.map V.int) (some 2) (some 5))) cA = some (.lst (cutV (ns.map V.int) (some 2) (some 5))) := upd_same
  have GC := GA.same sC
  have gC := sC _ _ g1
  generalize upd H1 cA (.lst (cutV (ns.map V.int) (some 2) (some 5))) = HC at hcC GC gC
  clear sC
  refine for_list (K := K) (a := cA) (xs := cutV (ns.map V.int) (some 2) (some 5)) (fun i σ H4 => ∃ v2 v3 v4 v5 v6 v7 v8 : Option V, σ = [some (.ref a), some (.ref g), v2, v3, v4, v5, v6, v7, v8] ∧ Same HC H4)
    ⟨none, none, none, none, none, none, none, rfl, Same.refl _⟩ (fun i σ H4 _ ⟨_, _, _, _, _, _, _, _, h⟩ => SqL.of (h _ _ hcC)) ?_ ?_
  · rintro i x σ H4 hx ⟨u2, u3, u4, u5, u6, u7, u8, rfl, sm4⟩
    obtain ⟨z, _, rfl⟩ := List.mem_map.mp (cutV_sub (List.mem_of_getElem? hx))
    refine ⟨_, rfl, g, _, 0, tx L, rfl, rfl, SqT.of (sm4 _ _ gC), rfl, _, rfl, L, z, 6, rfl, hl1, by omega, by decide, by decide, fun v H5 s5 hv hvl => ?_⟩
    have hvl' : v.length ≤ 6 := by omega
    have sm5 := sm4.trans s5
    have hlt : ∀ c ∈ v, c < 123 := fun c hc => by have := (G.le.az c (hv c hc)).2; omega
    refine ⟨_, rfl, _, rfl, g, L, T, v, rfl, G, GC.same sm5, hv, hvl', fun p H6 s6 hp => ?_⟩
    have sm6 := sm5.trans s6
    have hml : ∀ {u : List Nat}, u ∈ TR.lw (tiedB T) v.length v ↔ TR.Heq (tiedB T) u v := TR.mem_lw Td rfl hlt
    have hup := TR.lw_up (td := tiedB T) v.length v
    have hcnt := TR.lw_cnt Td hlt
    have hll : (TR.lw (tiedB T) v.length v).length ≤ 720 := Nat.le_trans (TR.lw_len Td rfl hlt) (TR.fac_six hvl')
    obtain ⟨r, hhd⟩ := lw_head Td (n := v.length) (w := v) rfl hlt
    generalize TR.lw (tiedB T) v.length v = W at hp hml hup hcnt hll hhd
    have hWm : ∀ u ∈ W, (∀ c ∈ u, c ∈ L) ∧ u.length ≤ 6 := fun u hu => by
      have he := hml.mp hu
      have := he.len Td
      exact ⟨fun c hc => hv c ((he.mem Td).mp hc), by omega⟩
    have aF : ∀ q ∈ W, ∀ c ∈ q, c ≤ 122 := fun q hq c hc => (G.le.az c ((hWm q hq).1 c hc)).2
    refine ⟨_, rfl, _, "tuple", .type "tuple", true, rfl, .tup hp, if_pos (beq_self_eq_true _), _, rfl, iteF ?_⟩
    refine ⟨_, rfl, p, _, rfl, .inr (SqT.of hp), fun l1 hl1 => ?_⟩
    have s7 : Same H6 (upd H6 l1 (.lst (W.map tx))) := same_new hl1 _
    have hp7 := s7 _ _ hp
    have h71 : upd H6 l1 (.lst (W.map tx)) l1 = some (.lst (W.map tx)) := upd_same
    generalize upd H6 l1 (.lst (W.map tx)) = H7 at s7 hp7 h71
    have em : (W.map S).map V.str = W.map tx := by rw [List.map_map]; rfl
    refine ⟨_, rfl, p, W.map S, rfl, SqT.of (by rw [em]; exact hp7), by rw [List.length_map]; omega, fun qA ss' n hqA ndS hle hmS => ?_⟩
    have s8 : Same H7 (upd H7 qA (HSet P w false n qA ss')) := same_new hqA _
    rw [List.length_map] at hle
    refine ⟨qA, ss', false, n, rfl, upd_same, small (by omega), fun l2 ss2 hl2 hperm hsort => ?_⟩
    have e2 : ss2 = W.map S := sorted_is hup (hperm.trans (set_perm hup ndS hmS)) hsort
    subst e2
    rw [em]
    have s9 : Same H7 (upd (upd H7 qA (HSet P w false n qA ss')) l2 (.lst (W.map tx))) := s8.trans (same_new hl2 _)
    refine ⟨_, _, .lst (SqL.of (s9 _ _ h71)) (dvs_ts W), .lst (SqL.of upd_same) (dvs_ts W), shaped_lst aF, shaped_lst aF, _, rfl, ?_⟩
    show if (!PyData.eqvAll (W.map tD) (W.map tD)) = true then _ else _
    rw [eqvAll_t, decide_eq_true rfl]
    have sm9 := (sm6.trans s7).trans s9
    have hp9 := s9 _ _ hp7
    generalize upd (upd H7 qA (HSet P w false n qA ss')) l2 (.lst (W.map tx)) = H9 at s9 sm9 hp9
    refine iteF ⟨_, rfl, _, rfl, p, _, rfl, .inr (SqT.of hp9), rfl, flat_tx W, _, rfl, ?_⟩
    show if (!inV (tx v) (W.map tx)) = true then _ else _
    rw [inV_tx, decide_eq_true (hml.mpr (TR.Heq.refl _ _))]
    refine iteF ⟨_, rfl, p, rfl, ⟨_, SqT.of hp9⟩, fun D hD => ?_⟩
    refine comp_core (α := List Nat) (β := List Nat) (as_ := W) (fr := []) (by rw [List.length_map]) (yields_tup (SqT.of hp9)) hD (by rw [List.length_map]; exact small (by omega)) (fun _ => true) (fun C => C) (fun C v H => TW H C v) (fun C v H H' ⟨t, e, h⟩ k => ⟨t, e, k _ _ h⟩) (fun j x d H' Qb hx hd sm' k => k H' (Same.refl _)) (fun j x C H' Qv hx hd _ sm' k => ?_) fun H10 ys s10 hd10 hpr => ?_
    · cases getI_map hx hd
      exact ⟨_, rfl, by show 2 ≤ sizeLine; exact small (by decide), fun tA htA => k _ _ (same_new htA _) ⟨tA, rfl, upd_same⟩⟩
    rw [filter_yes, List.map_id'] at hpr
    obtain ⟨qs, e1, e2, e3⟩ := paired_q hpr
    rw [e1] at hd10
    refine ⟨D, qs, rfl, SqL.of hd10, e3, by rw [e2]; exact nodup_S hup, fun dA hdA => ?_⟩
    rw [dW_of e2]
    have s11 : Same H10 (upd H10 dA (.dK (dW W))) := same_new hdA _
    have hd11 : upd H10 dA (.dK (dW W)) dA = some (.dK (dW W)) := upd_same
    have sm11 := (sm9.trans s10).trans s11
    have hp11 := s11 _ _ (s10 _ _ hp9)
    generalize upd H10 dA (.dK (dW W)) = H11 at s11 hd11 sm11 hp11
    refine ⟨_, rfl, p, rfl, ⟨_, SqT.of hp11⟩, ?_⟩
    refine for_tup (K := K) (a := p) (xs := W.map tx) (fun j σ H12 => ∃ x6 x7 x8 : Option V, σ = [some (.ref a), some (.ref g), some (.int z), some (tx v), some (.ref p), some (.ref dA), x6, x7, x8] ∧ Same H11 H12)
      ⟨u6, u7, u8, rfl, Same.refl _⟩ (fun _ _ _ _ ⟨_, _, _, _, h⟩ => SqT.of (h _ _ hp11)) ?_ ?_
    · rintro j x σ H12 hx ⟨x6, x7, x8, rfl, sm12⟩
      obtain ⟨u, hu, rfl⟩ := get_map hx
      have huW : u ∈ W := List.mem_of_getElem? hu
      obtain ⟨hum, hul⟩ := hWm u huW
      have hzu : (S u).length ≤ sizeLine := by rw [S_len]; exact small (by omega)
      refine ⟨_, rfl, _, rfl, _, rfl, g, L, T, u, v, rfl, G, GC.same (sm11.trans sm12), hum, hv, by omega, by omega, fun H13 b s13 hb => ⟨_, rfl, ?_⟩⟩
      cases hb.mpr (hml.mp huW)
      have sm13 := sm12.trans s13
      refine iteF ⟨_, rfl, S u, rfl, hzu, _, _, rfl, rfl, _, rfl, by rw [S_len]; omega, by rw [S_len]; omega, ?_⟩
      rw [S_len, show ((u.length : Nat) : Int) - 1 = ((u.length : Int) - 1) from rfl, show ((u.length : Int) - 1).toNat = u.length - 1 by omega]
      refine for_range (lo := 0) (n := u.length - 1) (fun k σ Hz => ∃ x7 x8 : Option V, σ = [some (.ref a), some (.ref g), some (.int z), some (tx v), some (.ref p), some (.ref dA), some (tx u), x7, x8] ∧ Same H11 Hz)
        ⟨x7, x8, rfl, sm13⟩ ?_ ?_
      · rintro k σ Hz hk ⟨y7, y8, rfl, smz⟩
        have e0 : (0 : Int) + (k : Int) = (k : Int) := by omega
        rw [e0]
        obtain ⟨x, c, d, y, hxy, hxl⟩ := cut_two (v := u) (k := k) (by omega)
        subst hxl
        have hl : u.length = x.length + (y.length + 2) := by rw [hxy, List.length_append]; rfl
        have hd : u[x.length + 1]? = some d := by rw [hxy, List.getElem?_append_right (by omega)]; simp
        have hc : u[x.length]? = some c := by rw [hxy, List.getElem?_append_right (by omega)]; simp
        have ei : (x.length : Int) + 1 = ((x.length + 1 : Nat) : Int) := by omega
        have ej : (x.length : Int) + 2 = ((x.length + 2 : Nat) : Int) := by omega
        refine ⟨_, rfl, _, rfl, _, rfl, S u, rfl, hzu, ?_⟩
        rw [slice_to]
        refine ⟨_, rfl, _, rfl, _, _, rfl, rfl, ?_⟩
        dsimp only
        rw [ei]
        refine ⟨S u, _, d, rfl, rfl, hzu, atI_nat (by rw [S_cps]; exact hd), _, _, rfl, rfl, by rw [S_len, S_len, List.length_take]; exact small (by show _ + 1 ≤ 100000; omega), ?_⟩
        have et : u.take x.length = x := by rw [hxy]; exact List.take_left
        have ed : u.drop (x.length + 2) = y := by rw [hxy, List.drop_append]; simp
        rw [et, S_app]
        refine ⟨_, rfl, _, rfl, S u, _, c, rfl, rfl, hzu, atI_nat (by rw [S_cps]; exact hc), _, _, rfl, rfl, by rw [S_len, S_len, List.length_append]; exact small (by show _ + 1 + 1 ≤ 100000; omega), ?_⟩
        rw [S_app]
        refine ⟨_, rfl, _, rfl, _, _, rfl, rfl, _, rfl, S u, rfl, hzu, ?_⟩
        dsimp only
        rw [ej, slice_from, ed]
        refine ⟨_, _, rfl, rfl, by rw [S_len, S_len, List.length_append, List.length_append]; exact small (by show _ + 1 + 1 + _ ≤ 100000; omega), ?_⟩
        rw [S_app]
        have ee : x ++ [d] ++ [c] ++ y = x ++ d :: c :: y := by simp
        rw [ee]
        refine ⟨_, rfl, _, rfl, _, rfl, S u, _, c, rfl, rfl, hzu, atI_nat (by rw [S_cps]; exact hc), _, rfl, _, rfl, _, _, rfl, rfl, S u, _, d, rfl, rfl, hzu, ?_, g, L, T, c, d, rfl, G, GC.same (sm11.trans smz), _, rfl, ?_⟩
        · show atI (S u).cps.toList ((x.length : Int) + 1) = some d
          rw [ei]
          exact atI_nat (by rw [S_cps]; exact hd)
        show if (!tiedB T c d) = true then _ else _
        cases ht : tiedB T c d with
        | true => exact iteF ⟨_, _, rfl, smz⟩
        | false =>
          have hin : x ++ d :: c :: y ∈ W := hml.mpr (TR.Heq.trans ?_ (hml.mp huW))
          · refine iteT ⟨_, rfl, _, rfl, dA, _, rfl, DGet.k (k := Sum.inr (S (x ++ d :: c :: y))) (smz _ _ hd11), _, rfl, ?_⟩
            rw [dW_some hin]
            exact iteF ⟨_, _, rfl, smz⟩
          · rw [hxy]
            exact (TR.swap Td ht x y).symm
      · rintro σ Hz ⟨y7, y8, rfl, smz⟩
        exact ⟨_, _, _, rfl, smz⟩
    rintro σ H12 ⟨x6, x7, x8, rfl, sm12⟩
    have sm13 := sm11.trans sm12
    refine ⟨_, rfl, _, rfl, g, L, T, v, rfl, G, GC.same sm13, hv, by omega, fun H13 s13 => ⟨_, rfl, fun H14 s14 => ⟨_, rfl, iteF ?_⟩⟩⟩
    have sm14 := (sm13.trans s13).trans s14
    refine ⟨_, rfl, _, rfl, g, L, T, v, rfl, G, GC.same sm14, hv, by omega, fun H15 s15 => ?_⟩
    have sm15 := sm14.trans s15
    have hp15 := s15 _ _ (s14 _ _ (s13 _ _ (sm12 _ _ hp11)))
    refine ⟨_, rfl, p, _, rfl, .inr (SqT.of hp15), rfl, _, rfl, iteNI ?_ ?_⟩
    · rw [List.length_map, hcnt]
    rw [hhd] at hp15
    refine ⟨_, rfl, p, _, 0, _, rfl, rfl, SqT.of hp15, atI_zero _ _, _, rfl, _, rfl, g, L, T, v, rfl, G, GC.same sm15, hv, by omega, fun H16 s16 => ⟨rfl, _, rfl, iteNT rfl ?_⟩⟩
    exact ⟨_, _, _, _, _, _, _, rfl, sm15.trans s16⟩
  · rintro σ H4 ⟨u2, u3, u4, u5, u6, u7, u8, rfl, sm4⟩
    exact q H4
end
end K10
namespace K10
open PySem L2 HW PyProof.Rows
theorem all_mk {l : PySem.W.OpenLaw} {w : World} {K : PySem.W.Frag} {h : Heap} {mg : Str → Option Value} {fa f0 f1 f2 f3 f4 f5 f6 f7 f8 f9 f10 f11 f12 f13 f14 f15 f16 f17 f18 f19 : Addr} (X : K.In h) (G : h.Ns mainGlobals mg) (hfa : mg "law" = some (.ref fa))
    {od0 an0 od1 an1 od2 an2 od3 an3 od4 an4 od5 an5 od6 an6 od7 an7 od8 an8 od9 an9 od10 an10 od11 an11 od12 an12 od13 an13 od14 an14 od15 an15 od16 an16 od17 an17 od18 an18 od19 an19 : Option Addr} {sl0 sl1 sl2 sl3 sl4 sl5 sl6 sl7 sl8 sl9 sl10 sl11 sl12 sl13 sl14 sl15 sl16 sl17 sl18 sl19 : Array (Option Value)} {oc0 kV0 dc0 pm0 cd0 ct0 oc1 kV1 dc1 pm1 cd1 ct1 oc2 kV2 dc2 pm2 cd2 ct2 oc3 kV3 dc3 pm3 cd3 ct3 oc4 kV4 dc4 pm4 cd4 ct4 oc5 kV5 dc5 pm5 cd5 ct5 oc6 kV6 dc6 pm6 cd6 ct6 oc7 kV7 dc7 pm7 cd7 ct7 oc8 kV8 dc8 pm8 cd8 ct8 oc9 kV9 dc9 pm9 cd9 ct9 oc10 kV10 dc10 pm10 cd10 ct10 oc11 kV11 dc11 pm11 cd11 ct11 oc12 kV12 dc12 pm12 cd12 ct12 oc13 kV13 dc13 pm13 cd13 ct13 oc14 kV14 dc14 pm14 cd14 ct14 oc15 kV15 dc15 pm15 cd15 ct15 oc16 kV16 dc16 pm16 cd16 ct16 oc17 kV17 dc17 pm17 cd17 ct17 oc18 kV18 dc18 pm18 cd18 ct18 oc19 kV19 dc19 pm19 cd19 ct19 : Value}
    (a0 : PySem.W.nsIn K mainGlobals "_law_cell" = some (some (.ref f0))) (l0 : K.lookup f0 = some ⟨oc0, od0, .func (PySem.W.fnOf "_law_cell" "_law_cell" (defArgs sCell) (defBody sCell) (defScope sCell) .none kV0 dc0 pm0 an0 cd0 ct0), sl0⟩) (c0 : PySem.W.codeIn K cd0 "_law_cell" = true) (k0 : PySem.W.keepIn K (.ref f0) = true)
    (a1 : PySem.W.nsIn K mainGlobals "_law_mix" = some (some (.ref f1))) (l1 : K.lookup f1 = some ⟨oc1, od1, .func (PySem.W.fnOf "_law_mix" "_law_mix" (defArgs sMix) (defBody sMix) (defScope sMix) .none kV1 dc1 pm1 an1 cd1 ct1), sl1⟩) (c1 : PySem.W.codeIn K cd1 "_law_mix" = true) (k1 : PySem.W.keepIn K (.ref f1) = true)
    (a2 : PySem.W.nsIn K mainGlobals "_law_letters" = some (some (.ref f2))) (l2 : K.lookup f2 = some ⟨oc2, od2, .func (PySem.W.fnOf "_law_letters" "_law_letters" (defArgs sLetters) (defBody sLetters) (defScope sLetters) .none kV2 dc2 pm2 an2 cd2 ct2), sl2⟩) (c2 : PySem.W.codeIn K cd2 "_law_letters" = true) (k2 : PySem.W.keepIn K (.ref f2) = true)
    (a3 : PySem.W.nsIn K mainGlobals "_law_ground" = some (some (.ref f3))) (l3 : K.lookup f3 = some ⟨oc3, od3, .func (PySem.W.fnOf "_law_ground" "_law_ground" (defArgs sGround) (defBody sGround) (defScope sGround) .none kV3 dc3 pm3 an3 cd3 ct3), sl3⟩) (c3 : PySem.W.codeIn K cd3 "_law_ground" = true) (k3 : PySem.W.keepIn K (.ref f3) = true)
    (a4 : PySem.W.nsIn K mainGlobals "_law_word" = some (some (.ref f4))) (l4 : K.lookup f4 = some ⟨oc4, od4, .func (PySem.W.fnOf "_law_word" "_law_word" (defArgs sWord) (defBody sWord) (defScope sWord) .none kV4 dc4 pm4 an4 cd4 ct4), sl4⟩) (c4 : PySem.W.codeIn K cd4 "_law_word" = true) (k4 : PySem.W.keepIn K (.ref f4) = true)
    (a5 : PySem.W.nsIn K mainGlobals "_law_tied" = some (some (.ref f5))) (l5 : K.lookup f5 = some ⟨oc5, od5, .func (PySem.W.fnOf "_law_tied" "_law_tied" (defArgs sLTied) (defBody sLTied) (defScope sLTied) .none kV5 dc5 pm5 an5 cd5 ct5), sl5⟩) (c5 : PySem.W.codeIn K cd5 "_law_tied" = true) (k5 : PySem.W.keepIn K (.ref f5) = true)
    (a6 : PySem.W.nsIn K mainGlobals "_law_told" = some (some (.ref f6))) (l6 : K.lookup f6 = some ⟨oc6, od6, .func (PySem.W.fnOf "_law_told" "_law_told" (defArgs sLTold) (defBody sLTold) (defScope sLTold) .none kV6 dc6 pm6 an6 cd6 ct6), sl6⟩) (c6 : PySem.W.codeIn K cd6 "_law_told" = true) (k6 : PySem.W.keepIn K (.ref f6) = true)
    (a7 : PySem.W.nsIn K mainGlobals "_law_same" = some (some (.ref f7))) (l7 : K.lookup f7 = some ⟨oc7, od7, .func (PySem.W.fnOf "_law_same" "_law_same" (defArgs sSame) (defBody sSame) (defScope sSame) .none kV7 dc7 pm7 an7 cd7 ct7), sl7⟩) (c7 : PySem.W.codeIn K cd7 "_law_same" = true) (k7 : PySem.W.keepIn K (.ref f7) = true)
    (a8 : PySem.W.nsIn K mainGlobals "_law_whole" = some (some (.ref f8))) (l8 : K.lookup f8 = some ⟨oc8, od8, .func (PySem.W.fnOf "_law_whole" "_law_whole" (defArgs sWhole) (defBody sWhole) (defScope sWhole) .none kV8 dc8 pm8 an8 cd8 ct8), sl8⟩) (c8 : PySem.W.codeIn K cd8 "_law_whole" = true) (k8 : PySem.W.keepIn K (.ref f8) = true)
    (a9 : PySem.W.nsIn K mainGlobals "is_tied" = some (some (.ref f9))) (l9 : K.lookup f9 = some ⟨oc9, od9, .func (PySem.W.fnOf "is_tied" "is_tied" (defArgs sIsTied) (defBody sIsTied) (defScope sIsTied) .none kV9 dc9 pm9 an9 cd9 ct9), sl9⟩) (c9 : PySem.W.codeIn K cd9 "is_tied" = true) (k9 : PySem.W.keepIn K (.ref f9) = true)
    (a10 : PySem.W.nsIn K mainGlobals "any_tied" = some (some (.ref f10))) (l10 : K.lookup f10 = some ⟨oc10, od10, .func (PySem.W.fnOf "any_tied" "any_tied" (defArgs sAnyTied) (defBody sAnyTied) (defScope sAnyTied) .none kV10 dc10 pm10 an10 cd10 ct10), sl10⟩) (c10 : PySem.W.codeIn K cd10 "any_tied" = true) (k10 : PySem.W.keepIn K (.ref f10) = true)
    (a11 : PySem.W.nsIn K mainGlobals "is_first" = some (some (.ref f11))) (l11 : K.lookup f11 = some ⟨oc11, od11, .func (PySem.W.fnOf "is_first" "is_first" (defArgs sIsFirst) (defBody sIsFirst) (defScope sIsFirst) .none kV11 dc11 pm11 an11 cd11 ct11), sl11⟩) (c11 : PySem.W.codeIn K cd11 "is_first" = true) (k11 : PySem.W.keepIn K (.ref f11) = true)
    (a12 : PySem.W.nsIn K mainGlobals "without" = some (some (.ref f12))) (l12 : K.lookup f12 = some ⟨oc12, od12, .func (PySem.W.fnOf "without" "without" (defArgs sWithout) (defBody sWithout) (defScope sWithout) .none kV12 dc12 pm12 an12 cd12 ct12), sl12⟩) (c12 : PySem.W.codeIn K cd12 "without" = true) (k12 : PySem.W.keepIn K (.ref f12) = true)
    (a13 : PySem.W.nsIn K mainGlobals "firsts" = some (some (.ref f13))) (l13 : K.lookup f13 = some ⟨oc13, od13, .func (PySem.W.fnOf "firsts" "firsts" (defArgs sFirsts) (defBody sFirsts) (defScope sFirsts) .none kV13 dc13 pm13 an13 cd13 ct13), sl13⟩) (c13 : PySem.W.codeIn K cd13 "firsts" = true) (k13 : PySem.W.keepIn K (.ref f13) = true)
    (a14 : PySem.W.nsIn K mainGlobals "plain" = some (some (.ref f14))) (l14 : K.lookup f14 = some ⟨oc14, od14, .func (PySem.W.fnOf "plain" "plain" (defArgs sPlain) (defBody sPlain) (defScope sPlain) .none kV14 dc14 pm14 an14 cd14 ct14), sl14⟩) (c14 : PySem.W.codeIn K cd14 "plain" = true) (k14 : PySem.W.keepIn K (.ref f14) = true)
    (a15 : PySem.W.nsIn K mainGlobals "ways_one_letter_on" = some (some (.ref f15))) (l15 : K.lookup f15 = some ⟨oc15, od15, .func (PySem.W.fnOf "ways_one_letter_on" "ways_one_letter_on" (defArgs sWays) (defBody sWays) (defScope sWays) .none kV15 dc15 pm15 an15 cd15 ct15), sl15⟩) (c15 : PySem.W.codeIn K cd15 "ways_one_letter_on" = true) (k15 : PySem.W.keepIn K (.ref f15) = true)
    (a16 : PySem.W.nsIn K mainGlobals "count_words" = some (some (.ref f16))) (l16 : K.lookup f16 = some ⟨oc16, od16, .func (PySem.W.fnOf "count_words" "count_words" (defArgs sCount) (defBody sCount) (defScope sCount) .none kV16 dc16 pm16 an16 cd16 ct16), sl16⟩) (c16 : PySem.W.codeIn K cd16 "count_words" = true) (k16 : PySem.W.keepIn K (.ref f16) = true)
    (a17 : PySem.W.nsIn K mainGlobals "one_letter_on" = some (some (.ref f17))) (l17 : K.lookup f17 = some ⟨oc17, od17, .func (PySem.W.fnOf "one_letter_on" "one_letter_on" (defArgs sOn) (defBody sOn) (defScope sOn) .none kV17 dc17 pm17 an17 cd17 ct17), sl17⟩) (c17 : PySem.W.codeIn K cd17 "one_letter_on" = true) (k17 : PySem.W.keepIn K (.ref f17) = true)
    (a18 : PySem.W.nsIn K mainGlobals "words_of" = some (some (.ref f18))) (l18 : K.lookup f18 = some ⟨oc18, od18, .func (PySem.W.fnOf "words_of" "words_of" (defArgs sWords) (defBody sWords) (defScope sWords) .none kV18 dc18 pm18 an18 cd18 ct18), sl18⟩) (c18 : PySem.W.codeIn K cd18 "words_of" = true) (k18 : PySem.W.keepIn K (.ref f18) = true)
    (a19 : PySem.W.nsIn K mainGlobals "law" = some (some (.ref f19))) (l19 : K.lookup f19 = some ⟨oc19, od19, .func (PySem.W.fnOf "law" "law" (defArgs sLaw) (defBody sLaw) (defScope sLaw) .none kV19 dc19 pm19 an19 cd19 ct19), sl19⟩) (c19 : PySem.W.codeIn K cd19 "law" = true) (k19 : PySem.W.keepIn K (.ref f19) = true)
    (z0 : PySem.W.nsIn K mainGlobals "len" = some none)
    (z1 : PySem.W.nsIn K mainGlobals "list" = some none)
    (z2 : PySem.W.nsIn K mainGlobals "range" = some none)
    (z3 : PySem.W.nsIn K mainGlobals "sorted" = some none)
    (z4 : PySem.W.nsIn K mainGlobals "enumerate" = some none)
    (z5 : PySem.W.nsIn K mainGlobals "tuple" = some none)
    (z6 : PySem.W.nsIn K mainGlobals "max" = some none)
    (z7 : PySem.W.nsIn K mainGlobals "min" = some none)
    (z8 : PySem.W.nsIn K mainGlobals "bool" = some none)
    (z9 : PySem.W.nsIn K mainGlobals "int" = some none)
    (z10 : PySem.W.nsIn K mainGlobals "isinstance" = some none)
    (z11 : PySem.W.nsIn K mainGlobals "set" = some none)
    (z12 : PySem.W.nsIn K mainGlobals "dict" = some none)
    (kib : PySem.W.kitOne K (.type "int") (.type "bool") = some false)
    : ∃ fd : FuncData, (∀ (s : Shared) (v : Value), BindsTo s fd ⟨[v], []⟩ [("_law_script", v)]) ∧ ∀ base : Heap, K.In base → base.Ns mainGlobals mg → FnOk l.prog w K mg base CX0 8 fa fd ["_law_script"] (spLaw K) := by
  have e := hfa.symm.trans (PySem.W.mg_of X G a19)
  cases e
  have F0 := fun_mk (st := sCell) l0 c0 k0
  have F1 := fun_mk (st := sMix) l1 c1 k1
  have F2 := fun_mk (st := sLetters) l2 c2 k2
  have F3 := fun_mk (st := sGround) l3 c3 k3
  have F4 := fun_mk (st := sWord) l4 c4 k4
  have F5 := fun_mk (st := sLTied) l5 c5 k5
  have F6 := fun_mk (st := sLTold) l6 c6 k6
  have F7 := fun_mk (st := sSame) l7 c7 k7
  have F8 := fun_mk (st := sWhole) l8 c8 k8
  have F9 := fun_mk (st := sIsTied) l9 c9 k9
  have F10 := fun_mk (st := sAnyTied) l10 c10 k10
  have F11 := fun_mk (st := sIsFirst) l11 c11 k11
  have F12 := fun_mk (st := sWithout) l12 c12 k12
  have F13 := fun_mk (st := sFirsts) l13 c13 k13
  have F14 := fun_mk (st := sPlain) l14 c14 k14
  have F15 := fun_mk (st := sWays) l15 c15 k15
  have F16 := fun_mk (st := sCount) l16 c16 k16
  have F17 := fun_mk (st := sOn) l17 c17 k17
  have F18 := fun_mk (st := sWords) l18 c18 k18
  have F19 := fun_mk (st := sLaw) l19 c19 k19
  have b0 := F0.binds (ps := ["_law_script", "_law_k"]) fun _ _ _ _ _ _ us hl => match us, hl with | [_, _], _ => rfl
  have m0 := PySem.W.mg_of X G a0
  have b1 := F1.binds (ps := ["_law_cell_here", "_law_prime", "_law_many"]) fun _ _ _ _ _ _ us hl => match us, hl with | [_, _, _], _ => rfl
  have m1 := PySem.W.mg_of X G a1
  have b2 := F2.binds (ps := ["_law_script"]) fun _ _ _ _ _ _ us hl => match us, hl with | [_], _ => rfl
  have m2 := PySem.W.mg_of X G a2
  have b3 := F3.binds (ps := ["_law_script"]) fun _ _ _ _ _ _ us hl => match us, hl with | [_], _ => rfl
  have m3 := PySem.W.mg_of X G a3
  have b4 := F4.binds (ps := ["_law_letters_here", "_law_seed", "_law_most"]) fun _ _ _ _ _ _ us hl => match us, hl with | [_, _, _], _ => rfl
  have m4 := PySem.W.mg_of X G a4
  have b5 := F5.binds (ps := ["_law_ground_here", "_law_one", "_law_other"]) fun _ _ _ _ _ _ us hl => match us, hl with | [_, _, _], _ => rfl
  have m5 := PySem.W.mg_of X G a5
  have b6 := F6.binds (ps := ["_law_ground_here", "_law_word_here"]) fun _ _ _ _ _ _ us hl => match us, hl with | [_, _], _ => rfl
  have m6 := PySem.W.mg_of X G a6
  have b7 := F7.binds (ps := ["_law_ground_here", "_law_one", "_law_other"]) fun _ _ _ _ _ _ us hl => match us, hl with | [_, _, _], _ => rfl
  have m7 := PySem.W.mg_of X G a7
  have b8 := F8.binds (ps := ["_law_found"]) fun _ _ _ _ _ _ us hl => match us, hl with | [_], _ => rfl
  have m8 := PySem.W.mg_of X G a8
  have b9 := F9.binds (ps := ["ground", "one", "other"]) fun _ _ _ _ _ _ us hl => match us, hl with | [_, _, _], _ => rfl
  have m9 := PySem.W.mg_of X G a9
  have b10 := F10.binds (ps := ["ground", "letters", "others"]) fun _ _ _ _ _ _ us hl => match us, hl with | [_, _, _], _ => rfl
  have m10 := PySem.W.mg_of X G a10
  have b11 := F11.binds (ps := ["ground", "word", "letter"]) fun _ _ _ _ _ _ us hl => match us, hl with | [_, _, _], _ => rfl
  have m11 := PySem.W.mg_of X G a11
  have b12 := F12.binds (ps := ["word", "letter"]) fun _ _ _ _ _ _ us hl => match us, hl with | [_, _], _ => rfl
  have m12 := PySem.W.mg_of X G a12
  have b13 := F13.binds (ps := ["ground", "word"]) fun _ _ _ _ _ _ us hl => match us, hl with | [_, _], _ => rfl
  have m13 := PySem.W.mg_of X G a13
  have b14 := F14.binds (ps := ["ground", "word"]) fun _ _ _ _ _ _ us hl => match us, hl with | [_, _], _ => rfl
  have m14 := PySem.W.mg_of X G a14
  have b15 := F15.binds (ps := ["ground", "ways"]) fun _ _ _ _ _ _ us hl => match us, hl with | [_, _], _ => rfl
  have m15 := PySem.W.mg_of X G a15
  have b16 := F16.binds (ps := ["ground", "word"]) fun _ _ _ _ _ _ us hl => match us, hl with | [_, _], _ => rfl
  have m16 := PySem.W.mg_of X G a16
  have b17 := F17.binds (ps := ["ground", "rows"]) fun _ _ _ _ _ _ us hl => match us, hl with | [_, _], _ => rfl
  have m17 := PySem.W.mg_of X G a17
  have b18 := F18.binds (ps := ["ground", "word"]) fun _ _ _ _ _ _ us hl => match us, hl with | [_, _], _ => rfl
  have m18 := PySem.W.mg_of X G a18
  have n0 := PySem.W.mg_none_of X G z0
  have n1 := PySem.W.mg_none_of X G z1
  have n2 := PySem.W.mg_none_of X G z2
  have n3 := PySem.W.mg_none_of X G z3
  have n4 := PySem.W.mg_none_of X G z4
  have n5 := PySem.W.mg_none_of X G z5
  have n6 := PySem.W.mg_none_of X G z6
  have n7 := PySem.W.mg_none_of X G z7
  have n8 := PySem.W.mg_none_of X G z8
  have n9 := PySem.W.mg_none_of X G z9
  have n10 := PySem.W.mg_none_of X G z10
  have n11 := PySem.W.mg_none_of X G z11
  have n12 := PySem.W.mg_none_of X G z12
  refine ⟨PySem.W.fnOf "law" "law" (defArgs sLaw) (defBody sLaw) (defScope sLaw) .none kV19 dc19 pm19 an19 cd19 ct19, fun s v => .of_eq rfl, fun base kb gb => ?_⟩
  have G0 : FnOk l.prog w K mg base CX0 1 f0 _ ["_law_script", "_law_k"] (spCell K) := ok_Cell F0  n0
  have G1 : FnOk l.prog w K mg base CX0 1 f1 _ ["_law_cell_here", "_law_prime", "_law_many"] spMix := ok_Mix F1
  have G2 : FnOk l.prog w K mg base CX0 2 f2 _ ["_law_script"] (spLetters K) := ok_Letters F2 G0 b0 k0 m0 G1 b1 k1 m1 n0 n1 n2 n3
  have G3 : FnOk l.prog w K mg base CX0 3 f3 _ ["_law_script"] (spGround K) := ok_Ground F3 G2 b2 k2 m2 G0 b0 k0 m0 G1 b1 k1 m1 n4 n5
  have G4 : FnOk l.prog w K mg base CX0 2 f4 _ ["_law_letters_here", "_law_seed", "_law_most"] spWord := ok_Word F4 G1 b1 k1 m1 n0 n2
  have G5 : FnOk l.prog w K mg base CX0 1 f5 _ ["_law_ground_here", "_law_one", "_law_other"] spTied := ok_LTied F5  n6 n7
  have G6 : FnOk l.prog w K mg base CX0 1 f6 _ ["_law_ground_here", "_law_word_here"] (spTold K) := ok_LTold F6  n1 n5
  have G7 : FnOk l.prog w K mg base CX0 2 f7 _ ["_law_ground_here", "_law_one", "_law_other"] spSame := ok_Same F7 G6 b6 k6 m6
  have G8 : FnOk l.prog w K mg base CX0 1 f8 _ ["_law_found"] spWhole := ok_Whole F8  n8 n9 n10  kib
  have G9 : FnOk l.prog w K mg base CX0 1 f9 _ ["ground", "one", "other"] spTied := ok_IsTied F9
  have G10 : FnOk l.prog w K mg base CX0 2 f10 _ ["ground", "letters", "others"] spAny := ok_AnyTied F10 G9 b9 k9 m9
  have G11 : FnOk l.prog w K mg base CX0 3 f11 _ ["ground", "word", "letter"] spIsFirst := ok_IsFirst F11 G10 b10 k10 m10
  have G12 : FnOk l.prog w K mg base CX0 1 f12 _ ["word", "letter"] spWithout := ok_Without F12
  have G13 : FnOk l.prog w K mg base CX0 4 f13 _ ["ground", "word"] spFirsts := ok_Firsts F13 G11 b11 k11 m11 n11 n3
  have G14 : FnOk l.prog w K mg base CX0 5 f14 _ ["ground", "word"] spPlain := ok_Plain F14 G13 b13 k13 m13 G12 b12 k12 m12
  have G15 : FnOk l.prog w K mg base CX0 5 f15 _ ["ground", "ways"] spWays := ok_Ways F15 G13 b13 k13 m13 G12 b12 k12 m12
  have G16 : FnOk l.prog w K mg base CX0 6 f16 _ ["ground", "word"] spCount := ok_Count F16 G15 b15 k15 m15 n0 n2
  have G17 : FnOk l.prog w K mg base CX0 5 f17 _ ["ground", "rows"] spOn := ok_On F17 G13 b13 k13 m13 G12 b12 k12 m12
  have G18 : FnOk l.prog w K mg base CX0 6 f18 _ ["ground", "word"] spWords := ok_Words F18 G17 b17 k17 m17 n0 n2 n5
  exact ok_Law F19 G3 b3 k3 m3 G4 b4 k4 m4 G18 b18 k18 m18 G7 b7 k7 m7 G5 b5 k5 m5 G16 b16 k16 m16 G8 b8 k8 m8 G14 b14 k14 m14 n12 n10 n0 n1 n2 n11 n3 n5
theorem walk {l : PySem.W.OpenLaw} {q : Program} {loose : List Str} {XP : (Str → Option Value) → Heap → Prop} {YP : World → Heap → Prop} {d : DefRec} {K : Params → PySem.W.Frag} (hn : l.most = some 63) (hdf : d.params.defaults = [])
    (hY : ∀ (w : World) (h : Heap), YP w h → (K w.params).In h)
    (F : ∀ (w : World) (mg : Str → Option Value) (fa : Addr) (h : Heap), (K w.params).In h → h.Ns mainGlobals mg → mg d.name = some (.ref fa) →
      ∃ fd : FuncData, (∀ (s : Shared) (u : Value), BindsTo s fd ⟨[u], []⟩ [("_law_script", u)]) ∧ ∀ base : Heap, (K w.params).In base → base.Ns mainGlobals mg → FnOk l.prog w (K w.params) mg base CX0 8 fa fd ["_law_script"] (spLaw (K w.params))) :
    PySem.W.WalkO q loose XP YP l.row.toRowW d [] (fun f vs => PySem.call f vs) :=
  L2.walk_of (n := 63) (k := 8) (x := "_law_script") (CX := fun _ => CX0) (sp := fun w => spLaw (K w.params)) hn (by decide) hdf ⟨rfl, by decide, by decide⟩ hY F (fun _ _ a ns hl _ hS => ⟨a, ns, rfl, hS, hl, fun _ => rfl⟩) fun _ _ _ _ _ z => z
end K10
open PySem PySem.W PyProof.Rows
set_option maxRecDepth 100000 in
set_option maxHeartbeats 0 in
theorem PySem.Challenge.cw_heapwords_k10_words_of_a_heap_holds : PySem.Challenge.rw_heapwords_k10_words_of_a_heap.Holds := by
  w_on; o_law; k_head; (case hw => w_witness2)
  k_fill
  refine K10.walk (l := PySem.Challenge.rw_heapwords_k10_words_of_a_heap) rfl rfl (fun w h Y => PySem.W.kIn_of Y) ?F
  case F =>
    intro w mg fa h KX G hmg
    refine' K10.all_mk KX G hmg ?a0 ?l0 ?c0 ?k0 ?a1 ?l1 ?c1 ?k1 ?a2 ?l2 ?c2 ?k2 ?a3 ?l3 ?c3 ?k3 ?a4 ?l4 ?c4 ?k4 ?a5 ?l5 ?c5 ?k5 ?a6 ?l6 ?c6 ?k6 ?a7 ?l7 ?c7 ?k7 ?a8 ?l8 ?c8 ?k8 ?a9 ?l9 ?c9 ?k9 ?a10 ?l10 ?c10 ?k10 ?a11 ?l11 ?c11 ?k11 ?a12 ?l12 ?c12 ?k12 ?a13 ?l13 ?c13 ?k13 ?a14 ?l14 ?c14 ?k14 ?a15 ?l15 ?c15 ?k15 ?a16 ?l16 ?c16 ?k16 ?a17 ?l17 ?c17 ?k17 ?a18 ?l18 ?c18 ?k18 ?a19 ?l19 ?c19 ?k19 ?z0 ?z1 ?z2 ?z3 ?z4 ?z5 ?z6 ?z7 ?z8 ?z9 ?z10 ?z11 ?z12   ?kib
    (case a0 => k_is); (case l0 => k_is); (case c0 => k_is); (case k0 => k_is)
    (case a1 => k_is); (case l1 => k_is); (case c1 => k_is); (case k1 => k_is)
    (case a2 => k_is); (case l2 => k_is); (case c2 => k_is); (case k2 => k_is)
    (case a3 => k_is); (case l3 => k_is); (case c3 => k_is); (case k3 => k_is)
    (case a4 => k_is); (case l4 => k_is); (case c4 => k_is); (case k4 => k_is)
    (case a5 => k_is); (case l5 => k_is); (case c5 => k_is); (case k5 => k_is)
    (case a6 => k_is); (case l6 => k_is); (case c6 => k_is); (case k6 => k_is)
    (case a7 => k_is); (case l7 => k_is); (case c7 => k_is); (case k7 => k_is)
    (case a8 => k_is); (case l8 => k_is); (case c8 => k_is); (case k8 => k_is)
    (case a9 => k_is); (case l9 => k_is); (case c9 => k_is); (case k9 => k_is)
    (case a10 => k_is); (case l10 => k_is); (case c10 => k_is); (case k10 => k_is)
    (case a11 => k_is); (case l11 => k_is); (case c11 => k_is); (case k11 => k_is)
    (case a12 => k_is); (case l12 => k_is); (case c12 => k_is); (case k12 => k_is)
    (case a13 => k_is); (case l13 => k_is); (case c13 => k_is); (case k13 => k_is)
    (case a14 => k_is); (case l14 => k_is); (case c14 => k_is); (case k14 => k_is)
    (case a15 => k_is); (case l15 => k_is); (case c15 => k_is); (case k15 => k_is)
    (case a16 => k_is); (case l16 => k_is); (case c16 => k_is); (case k16 => k_is)
    (case a17 => k_is); (case l17 => k_is); (case c17 => k_is); (case k17 => k_is)
    (case a18 => k_is); (case l18 => k_is); (case c18 => k_is); (case k18 => k_is)
    (case a19 => k_is); (case l19 => k_is); (case c19 => k_is); (case k19 => k_is)
    (case z0 => k_is); (case z1 => k_is); (case z2 => k_is); (case z3 => k_is); (case z4 => k_is); (case z5 => k_is); (case z6 => k_is); (case z7 => k_is); (case z8 => k_is); (case z9 => k_is); (case z10 => k_is); (case z11 => k_is); (case z12 => k_is)
    (case kib => first | k_is | rfl | decide +kernel)
