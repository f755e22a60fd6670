/-
  SLICES OF STRUCTS OF TWO INTEGERS, over whatever program: how they lie, that they stay, what is read, cut, made and appended. Nothing of the program stands here.
-/
import Derived.WalkKit
import Derived.Lib.Hide
import Derived.Laws.AppendOwnNone
import Derived.Maps.AppendAt
import Derived.Laws.OwnMore
import Derived.ProofKit
import Derived.Laws.IdiomStrings
import Derived.WalkSpells
import Derived.Test.YtjepjcdobgdacaaCapPlain
namespace Go.Proofs.Ytjepjcdobgdacaa
open Go Go.RowKit Go.ChangeShapes Go.WideShapes Go.ChangeAt

/-- An item's two cells. -/
abbrev itv (x : It) : Value := .agg #[.int .i64 x.1, .int .i64 x.2]
def flat (xs : List It) : List Value := xs.flatMap fun x => [.int .i64 x.1, .int .i64 x.2]
theorem flat_nil : flat [] = [] := rfl
theorem flat_cons (x : It) (xs : List It) : flat (x :: xs) = .int .i64 x.1 :: .int .i64 x.2 :: flat xs := rfl
theorem flat_append (xs ys : List It) : flat (xs ++ ys) = flat xs ++ flat ys := by simp [flat]
theorem flat_len (xs : List It) : (flat xs).length = xs.length * 2 := by
  induction xs with
  | nil => rfl
  | cons x xs ih => rw [flat_cons]; simp only [List.length_cons, ih]; omega
theorem flat_get {xs : List It} {i : Nat} {x : It} (h : xs[i]? = some x) : (flat xs)[i * 2]? = some (.int .i64 x.1) ∧ (flat xs)[i * 2 + 1]? = some (.int .i64 x.2) := by
  induction xs generalizing i with
  | nil => simp at h
  | cons y xs ih =>
    cases i with
    | zero =>
      obtain rfl : y = x := by simpa using h
      exact ⟨rfl, rfl⟩
    | succ i =>
      obtain ⟨h1, h2⟩ := ih (by simpa using h)
      rw [flat_cons, show (i + 1) * 2 = i * 2 + 1 + 1 by omega]
      exact ⟨h1, h2⟩
theorem flat_mem {xs : List It} : ∀ u ∈ flat xs, u.oneCell' = true := by
  intro u hu
  obtain ⟨x, _, hx⟩ := List.mem_flatMap.1 hu
  simp at hx
  rcases hx with rfl | rfl <;> rfl
theorem flat_take (xs : List It) (k : Nat) : (flat xs).take (k * 2) = flat (xs.take k) := by
  induction xs generalizing k with
  | nil => simp [flat]
  | cons x xs ih =>
    cases k with
    | zero => rfl
    | succ k =>
      rw [List.take_succ_cons, flat_cons, flat_cons, show (k + 1) * 2 = k * 2 + 1 + 1 by omega, List.take_succ_cons, List.take_succ_cons, ih]
theorem flat_set (xs : List It) (i : Nat) (x : It) (hi : i < xs.length) : flat (xs.set i x) = ((flat xs).set (i * 2) (.int .i64 x.1)).set (i * 2 + 1) (.int .i64 x.2) := by
  induction xs generalizing i with
  | nil => simp at hi
  | cons y xs ih =>
    cases i with
    | zero => rfl
    | succ i =>
      rw [List.set_cons_succ, flat_cons, flat_cons, ih i (by simpa using hi), show (i + 1) * 2 = i * 2 + 1 + 1 by omega]
      simp only [List.set_cons_succ]
theorem flat_at (xs : List It) (j : Nat) (u : Value) (h : (flat xs)[j]? = some u) : ∃ x, xs[j / 2]? = some x ∧ ((j = j / 2 * 2 ∧ u = .int .i64 x.1) ∨ (j = j / 2 * 2 + 1 ∧ u = .int .i64 x.2)) := by
  have hl : j < xs.length * 2 := by rw [← flat_len]; exact (List.getElem?_eq_some_iff.1 h).1
  have hx : xs[j / 2]? = some (xs[j / 2]'(by omega)) := List.getElem?_eq_getElem (by omega)
  obtain ⟨h1, h2⟩ := flat_get hx
  refine ⟨_, hx, ?_⟩
  rcases Nat.mod_two_eq_zero_or_one j with e | e
  · have e1 : j = j / 2 * 2 := by omega
    rw [← e1, h] at h1
    exact .inl ⟨e1, Option.some.inj h1⟩
  · have e1 : j = j / 2 * 2 + 1 := by omega
    rw [← e1, h] at h2
    exact .inr ⟨e1, Option.some.inj h2⟩

/-- The slice value of the address p and the capacity c holds the items xs. -/
structure RdI (w : World) (p : Option Addr) (c : Nat) (xs : List It) : Prop where
  cap : xs.length ≤ c
  max : c ≤ 9223372036854775807
  bare : p = none → c = 0
  cells : 0 < xs.length → ∃ b o, p = some ⟨b, o, none⟩ ∧ ∀ i x, xs[i]? = some x → w.cell? ⟨b, o + i * 2, none⟩ = some (.int .i64 x.1) ∧ w.cell? ⟨b, o + i * 2 + 1, none⟩ = some (.int .i64 x.2)
section
variable {w w' : World} {p : Option Addr} {c : Nat} {xs : List It}
theorem RdI.nil (w : World) : RdI w none 0 [] := ⟨Nat.le_refl _, by omega, fun _ => rfl, fun h => absurd h (Nat.lt_irrefl 0)⟩
theorem RdI.cell {b o : Nat} (h : RdI w (some ⟨b, o, none⟩) c xs) {i : Nat} {x : It} (hi : xs[i]? = some x) : w.cell? ⟨b, o + i * 2, none⟩ = some (.int .i64 x.1) ∧ w.cell? ⟨b, o + i * 2 + 1, none⟩ = some (.int .i64 x.2) := by
  obtain ⟨b', o', hp, hc⟩ := h.cells (by have := (List.getElem?_eq_some_iff.1 hi).1; omega)
  obtain ⟨rfl, rfl⟩ : b = b' ∧ o = o' := by simpa using hp
  exact hc i x hi
theorem RdI.at {b o : Nat} (h : RdI w (some ⟨b, o, none⟩) c xs) {i : Nat} (hi : i < xs.length) : w.cell? ⟨b, o + i * 2, none⟩ = some (.int .i64 (xs.getD i (0, 0)).1) ∧ w.cell? ⟨b, o + i * 2 + 1, none⟩ = some (.int .i64 (xs.getD i (0, 0)).2) :=
  h.cell (i := i) (by simp [List.getD, hi])
theorem RdI.lt {b o : Nat} (h : RdI w (some ⟨b, o, none⟩) c xs) (hn : 0 < xs.length) : b < w.heap.size :=
  World.block_lt_of_cell? _ _ (h.cell (i := 0) (List.getElem?_eq_getElem hn)).1
theorem RdI.parts (h : RdI w p c xs) : xs = [] ∨ (0 < xs.length ∧ ∃ b o, p = some ⟨b, o, none⟩) := by
  rcases Nat.eq_zero_or_pos xs.length with hn | hn
  · exact .inl (List.eq_nil_of_length_eq_zero hn)
  · obtain ⟨b, o, rfl, _⟩ := h.cells hn
    exact .inr ⟨hn, b, o, rfl⟩
theorem RdI.keep (h : RdI w p c xs) (hb : 0 < xs.length → ∀ b o, p = some ⟨b, o, none⟩ → b < w.heap.size → w'.heap[b]? = w.heap[b]?) : RdI w' p c xs :=
  ⟨h.cap, h.max, h.bare, fun hn => by
    obtain ⟨b, o, rfl, hc⟩ := h.cells hn
    refine ⟨b, o, rfl, fun i x hx => ?_⟩
    obtain ⟨h1, h2⟩ := hc i x hx
    have hk := hb hn b o rfl (World.block_lt_of_cell? _ _ h1)
    exact ⟨(World.cell?_of_block (w := w) (w' := w') (a := ⟨b, o + i * 2, none⟩) hk).trans h1, (World.cell?_of_block (w := w) (w' := w') (a := ⟨b, o + i * 2 + 1, none⟩) hk).trans h2⟩⟩
theorem RdI.kept (h : RdI w p c xs) (hb : Below w.heap.size w w') : RdI w' p c xs := h.keep fun _ b _ _ hl => hb.block b hl
theorem RdI.upto (h : RdI w p c xs) (n : Nat) (hn : n ≤ xs.length) : RdI w p c (xs.take n) :=
  ⟨by have := h.cap; simp; omega, h.max, h.bare, fun h0 => by
    have h1 : 0 < n := by simp at h0; omega
    obtain ⟨b, o, rfl, hc⟩ := h.cells (by omega)
    refine ⟨b, o, rfl, fun i x hx => hc i x ?_⟩
    have hi : i < n := by have := (List.getElem?_eq_some_iff.1 hx).1; simp at this; omega
    rwa [List.getElem?_take_of_lt hi] at hx⟩
/-- 'b[l:]' -/
theorem RdI.from (h : RdI w p c xs) (n : Nat) (hn : n ≤ xs.length) : RdI w (if c = n then p else p.map (·.add (n * 2))) (c - n) (xs.drop n) := by
  have hcap := h.cap
  refine ⟨by simp; omega, by have := h.max; omega, fun h0 => ?_, fun h0 => ?_⟩
  · split at h0
    · omega
    · have := h.bare (by cases p <;> simp_all)
      omega
  · simp at h0
    obtain ⟨b, o, rfl, hc⟩ := h.cells (by omega)
    refine ⟨b, o + n * 2, ?_, fun i x hi => ?_⟩
    · rw [if_neg (by omega), Option.map_some, Go.WideShapes.add_plain]
    · rw [List.getElem?_drop] at hi
      have := hc _ x hi
      rw [Nat.add_mul, ← Nat.add_assoc] at this
      exact this
end
/-- A literal. -/
theorem RdI.made (w : World) (xs : List It) (n : Nat) (e : TypeId) (cs : Array Value) (fr : Nat × Nat) (hc : cs = (flat xs).toArray) (hn : xs.length = n) (hs : n ≤ 9223372036854775807) : RdI (w.alloc (.cells cs e fr)) (some ⟨w.heap.size, 0, none⟩) n xs := by
  subst hc hn
  refine ⟨Nat.le_refl _, hs, fun h => (by cases h), fun _ => ⟨w.heap.size, 0, rfl, fun i x hi => ?_⟩⟩
  obtain ⟨h1, h2⟩ := flat_get hi
  rw [World.cell?_alloc_mark, World.cell?_alloc_mark, Nat.zero_add]
  exact ⟨by simpa using h1, by simpa using h2⟩

/-- A slice of items that the call itself has made. -/
def OwI (w : World) (base : Nat) (e : TypeId) (v : Value) (xs : List It) : Prop := w.ownsRow base e 2 v xs.length (flat xs)
section
variable {w w' : World} {base : Nat} {e : TypeId} {xs : List It}
theorem OwI.nil (w : World) (base : Nat) (e : TypeId) : OwI w base e (.slice none 0 0) [] := World.ownsRow_nil w base e 2
theorem OwI.parts {v : Value} (h : OwI w base e v xs) : ∃ p c, v = .slice p xs.length c ∧ RdI w p c xs ∧ ((p = none ∧ c = 0 ∧ xs = []) ∨ ∃ g cur, p = some ⟨g, 0, none⟩ ∧ base ≤ g ∧ w.heap[g]? = some (.cells cur e (0, 0)) ∧ cur.size = c * 2 ∧ cur.toList.take (xs.length * 2) = flat xs) := by
  have h0 := h
  rcases h.2 with ⟨rfl, hn⟩ | ⟨g, cap, cur, rfl, hb, hg, hc, hm, hs, ht⟩
  · obtain rfl : xs = [] := List.eq_nil_of_length_eq_zero hn
    exact ⟨none, 0, rfl, RdI.nil w, .inl ⟨rfl, rfl, rfl⟩⟩
  · refine ⟨some ⟨g, 0, none⟩, cap, rfl, ⟨hc, by simpa [maxLen] using hm, fun h => (by cases h), fun _ => ⟨g, 0, rfl, fun i x hi => ?_⟩⟩, .inr ⟨g, cur, rfl, hb, hg, hs, ht⟩⟩
    have hil := (List.getElem?_eq_some_iff.1 hi).1
    obtain ⟨h1, h2⟩ := flat_get hi
    rw [Nat.zero_add, World.ownsRow.cellAt h0 _ (by omega), World.ownsRow.cellAt h0 _ (by omega)]
    exact ⟨h1, h2⟩
theorem OwI.rd {p : Option Addr} {n c : Nat} (h : OwI w base e (.slice p n c) xs) : n = xs.length ∧ RdI w p c xs := by
  obtain ⟨p', c', hv, hb, _⟩ := h.parts
  simp only [Value.slice.injEq] at hv
  obtain ⟨rfl, rfl, rfl⟩ := hv
  exact ⟨rfl, hb⟩
theorem OwI.place {p : Option Addr} {n c : Nat} (h : OwI w base e (.slice p n c) xs) : ∀ a, p = some a → base ≤ a.block ∧ a.block < w.heap.size := by
  intro a ha
  obtain ⟨p', c', hv, _, hb⟩ := h.parts
  simp only [Value.slice.injEq] at hv
  obtain ⟨rfl, rfl, rfl⟩ := hv
  rcases hb with ⟨rfl, _⟩ | ⟨g, cur, rfl, h1, h2, _⟩
  · cases ha
  · obtain rfl := Option.some.inj ha
    exact ⟨h1, (Array.getElem?_eq_some_iff.1 h2).1⟩
theorem OwI.keep {p : Option Addr} {n c : Nat} (h : OwI w base e (.slice p n c) xs) (hb : ∀ a, p = some a → a.block < w.heap.size → w'.heap[a.block]? = w.heap[a.block]?) : OwI w' base e (.slice p n c) xs := by
  refine ⟨h.1, ?_⟩
  rcases h.2 with hn | ⟨g, cap, cur, hv, h1, hg, rest⟩
  · exact .inl hn
  · have hp : p = some ⟨g, 0, none⟩ := by simp only [Value.slice.injEq] at hv; exact hv.1
    exact .inr ⟨g, cap, cur, hv, h1, by rw [hb _ hp (Array.getElem?_eq_some_iff.1 hg).1]; exact hg, rest⟩
theorem OwI.kept {p : Option Addr} {n c : Nat} (h : OwI w base e (.slice p n c) xs) (hb : Below w.heap.size w w') : OwI w' base e (.slice p n c) xs := h.keep fun _ _ hl => hb.block _ hl
theorem OwI.down {base' : Nat} {v : Value} (h : OwI w base e v xs) (hb : base' ≤ base) : OwI w base' e v xs := by
  refine ⟨h.1, ?_⟩
  rcases h.2 with hn | ⟨g, cap, cur, hv, h1, r⟩
  · exact .inl hn
  · exact .inr ⟨g, cap, cur, hv, Nat.le_trans hb h1, r⟩
theorem OwI.free {b o n c : Nat} (h : OwI w base e (.slice (some ⟨b, o, none⟩) n c) xs) (j : Nat) : o = 0 ∧ w.frozen? ⟨b, j, none⟩ = false := by
  have h0 := h
  obtain ⟨hn, _⟩ := h.rd
  rcases h.2 with ⟨h', _⟩ | ⟨g, cap, cur, hv, _⟩
  · simp at h'
  · simp only [Value.slice.injEq, Option.some.injEq, Addr.mk.injEq, and_true] at hv
    obtain ⟨⟨rfl, rfl⟩, rfl, rfl⟩ := hv
    exact ⟨rfl, World.ownsRow.frozenAt (show World.ownsRow w base e 2 (.slice (some ⟨b, 0, none⟩) xs.length c) xs.length (flat xs) from hn ▸ h0) j⟩
theorem OwI.at {p : Option Addr} {n c : Nat} (h : OwI w base e (.slice p n c) xs) (hn : 0 < n) : ∃ g, p = some ⟨g, 0, none⟩ ∧ base ≤ g ∧ g < w.heap.size := by
  rcases h.2 with ⟨hv, _⟩ | ⟨g, cap, cur, hv, hb, hg, _⟩
  · simp only [Value.slice.injEq] at hv
    omega
  · simp only [Value.slice.injEq] at hv
    exact ⟨g, hv.1, hb, (Array.getElem?_eq_some_iff.1 hg).1⟩
/-- One item of it is stored. -/
theorem OwI.set {b n c : Nat} (h : OwI w base e (.slice (some ⟨b, 0, none⟩) n c) xs) (i : Nat) (x : It) (hi : i < xs.length) :
    OwI ((w.setCell ⟨b, i * 2, none⟩ (.int .i64 x.1)).setCell ⟨b, i * 2 + 1, none⟩ (.int .i64 x.2)) base e (.slice (some ⟨b, 0, none⟩) n c) (xs.set i x) := by
  obtain ⟨rfl, _⟩ := h.rd
  have h2 : World.ownsRow w base e 2 (.slice (some ⟨b, 0, none⟩) xs.length c) xs.length (flat xs) := h
  have h3 := (World.ownsRow.stored h2 (i * 2) (.int .i64 x.1)).1
  have h4 := (World.ownsRow.stored h3 (i * 2 + 1) (.int .i64 x.2)).1
  show World.ownsRow _ _ _ _ _ _ _
  rw [List.length_set, flat_set xs i x hi]
  exact h4
/-- Its first items. -/
theorem OwI.upto {p : Option Addr} {n c : Nat} (h : OwI w base e (.slice p n c) xs) (k : Nat) (hk : k ≤ xs.length) : OwI w base e (.slice p k c) (xs.take k) := by
  have hl : (xs.take k).length = k := by simp; omega
  refine ⟨by rw [hl, flat_len, hl], ?_⟩
  rw [hl]
  rcases h.2 with ⟨hv, h0⟩ | ⟨g, cap, cur, hv, h1, hg, h2, h3, h4, h5⟩
  · simp only [Value.slice.injEq] at hv
    exact .inl ⟨by simp only [Value.slice.injEq]; exact ⟨hv.1, by omega, hv.2.2⟩, by omega⟩
  · simp only [Value.slice.injEq] at hv
    refine .inr ⟨g, cap, cur, by simp only [Value.slice.injEq]; exact ⟨hv.1, trivial, hv.2.2⟩, h1, hg, by omega, h3, h4, ?_⟩
    rw [← flat_take, ← h5, List.take_take]
    congr 1
    omega
theorem OwI.grown_below {N : Nat} {v : Value} (h : OwI w base e v xs) (hg : w.grownBy w' v.ownBlock) (hN : N ≤ base) (hs : N ≤ w.heap.size) : Below N w w' :=
  (Below.refl N w).grown hg hs fun k hk => by
    have := (World.ownsRow.lt h k hk).1
    omega
theorem OwI.lit (w : World) (xs : List It) (n base : Nat) (e : TypeId) (cs : Array Value) (hc : cs = (flat xs).toArray) (hn : xs.length = n) (hs : n ≤ 9223372036854775807) (hb : base ≤ w.heap.size) : OwI (w.alloc (.cells cs e)) base e (.slice (some ⟨w.heap.size, 0, none⟩) n n) xs := by
  subst hc hn
  have := World.ownsRow_lit (base := base) (e := e) (size := 2) w (flat xs).toArray xs.length hb (by simpa [maxLen] using hs) (by simp [flat_len])
  exact this
end

section
variable {P : Program} {w : World} {ops : Array Oper} {rest : List Oper} {o : Oper} {a : Act} {Q : Exit → Act → World → Prop}
/-- 'append(out, b...)': out made by the call, b whatever. -/
theorem run_append_its (t ty : TypeId) (base : Nat) (e : TypeId) (z : Value) (by' : Nat) (ht : P.underlying t = some (.slice e)) (hi : (P.info? e).map (fun i => (i.zero, i.size, i.bytes)) = some (some z, 2, by')) (hzs : z.cells.size = 2)
    (v : Value) (xs : List It) (hown : OwI w base e v xs) (p : Option Addr) (n c : Nat) (ys : List It) (hl : ys.length = n) (hin : RdI w p c ys)
    (hbytes : (xs.length + ys.length) * by' ≤ 140737488355328) (h63 : xs.length + ys.length ≤ 9223372036854775807) (hbase : base ≤ w.heap.size) :
    ∃ v' w', (Builtin.append_ #[t, t] ty #[v, .slice p n c]).run P w = .ok v' w' ∧ OwI w' base e v' (xs ++ ys) ∧ Below base w w' ∧ w.grownBy w' v.ownBlock ∧ (v'.ownBlock = v.ownBlock ∨ v'.ownBlock = some w.heap.size) := by
  obtain ⟨i, hi, hz0, hz1, hz2⟩ := info_parts hi
  subst hl
  cases p with
  | none =>
    have hc0 := hin.bare rfl
    obtain rfl : ys = [] := List.eq_nil_of_length_eq_zero (by have := hin.cap; omega)
    rw [hc0]
    refine ⟨v, w, run_append_owned_none (P := P) (w := w) base t ty e i 2 ht hi v xs.length (flat xs) hown, by rw [List.append_nil]; exact hown, Below.refl _ _, ⟨rfl, rfl, rfl, Nat.le_refl _, fun _ _ _ => rfl⟩, .inl rfl⟩
  | some ad =>
    obtain ⟨v', w', hrun, h2, h3, _, h5⟩ := run_append_own_at (P := P) w base t ty e i z 2 by' ht hi hz0 hz1 hz2 hzs (by omega) v xs.length (flat xs) hown ad ys.length c (flat ys) (flat_len ys) (fun j u hj => by
      obtain ⟨x, hx, hu⟩ := flat_at ys j u hj
      obtain ⟨b, o, hp, hc⟩ := hin.cells (by have := (List.getElem?_eq_some_iff.1 hx).1; omega)
      obtain rfl := Option.some.inj hp
      obtain ⟨h1, h2⟩ := hc _ x hx
      rw [Go.WideShapes.add_plain]
      rcases hu with ⟨e1, rfl⟩ | ⟨e1, rfl⟩
      · rw [e1]; exact h1
      · rw [e1, ← Nat.add_assoc]; exact h2) flat_mem (by simp only [maxLen]; omega) hbytes hbase
    refine ⟨v', w', hrun, ?_, hown.grown_below h3 (Nat.le_refl _) hbase, h3, h5⟩
    show World.ownsRow _ _ _ _ _ _ _
    rw [List.length_append, flat_append]
    exact h2
theorem wpList_append_its (hgd : o.guard = none) (s x : Operand) (t : TypeId)
    (ho : o.op = .call { callee := .builtin .append, args := #[s, x], argTypes := #[t, t] })
    (base : Nat) (e : TypeId) (z : Value) (by' : Nat) (ht : P.underlying t = some (.slice e)) (hi : (P.info? e).map (fun i => (i.zero, i.size, i.bytes)) = some (some z, 2, by')) (hzs : z.cells.size = 2)
    (v : Value) (xs : List It) (hs : a.eval s = v) (hown : OwI w base e v xs)
    (p : Option Addr) (n c : Nat) (ys : List It) (hx : a.eval x = .slice p n c) (hl : ys.length = n) (hin : RdI w p c ys)
    (hbytes : (xs.length + ys.length) * by' ≤ 140737488355328) (h63 : xs.length + ys.length ≤ 9223372036854775807) (hbase : base ≤ w.heap.size)
    (h : ∀ p' c' zs w', Hid (zs = xs ++ ys) → OwI w' base e (.slice p' zs.length c') zs → Below base w w' → wpList P ops Q rest (a.put o.dst (.slice p' zs.length c')) w') : wpList P ops Q (o :: rest) a w := by
  obtain ⟨v', w', hrun, h2, h3, _⟩ := run_append_its (P := P) t o.type base e z by' ht hi hzs v xs hown p n c ys hl hin hbytes h63 hbase
  obtain ⟨p', c', rfl, _, _⟩ := h2.parts
  refine wpList_plain hgd fun K hK => ?_
  unfold Oper.wp
  simp [execOp, ho, resolve, invoke, builtin, hs, hx, hrun, Result.andThen]
  have := h p' c' _ w' rfl h2 h3
  rw [List.length_append] at this
  exact hK _ _ this
end
end Go.Proofs.Ytjepjcdobgdacaa
