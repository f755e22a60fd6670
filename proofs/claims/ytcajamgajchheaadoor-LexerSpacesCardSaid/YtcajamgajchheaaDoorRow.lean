/-
  SLICES OF STRUCTS OF WHATEVER FLAT SHAPE (any program): given ones (Rw) and those that the call itself has made (OwR): how they lie, that they stay, what is read, cut, made, stored and appended. Nothing of the program stands here.
-/
import Derived.WalkKit
import Derived.Lib.Hide
import Derived.Laws.AppendOwnNone
import Derived.Maps.AppendAt
import Derived.Laws.OwnMore
import Derived.ProofKit
import Derived.Laws.IdiomStrings
import Derived.WalkSpells
import Derived.Test.YtcajamgajchheaaDoorRdL
import Derived.Test.YtcajamgajchheaaDoorChg
namespace Go.Proofs.YtcajamgajchheaaDoor
open Go Go.RowKit Go.ChangeShapes Go.WideShapes Go.ChangeAt

/-- enc writes every element as k cells. -/
structure Enc {α : Type} (k : Nat) (enc : α → List Value) : Prop where
  len : ∀ x, (enc x).length = k
  one : ∀ x, ∀ u ∈ enc x, u.oneCell' = true
  pos : 0 < k
def flatL {α : Type} (enc : α → List Value) (xs : List α) : List Value := xs.flatMap enc
section
variable {α : Type} {k : Nat} {enc : α → List Value}
theorem flatL_nil : flatL enc [] = [] := rfl
theorem flatL_cons (x : α) (xs : List α) : flatL enc (x :: xs) = enc x ++ flatL enc xs := rfl
theorem flatL_append (xs ys : List α) : flatL enc (xs ++ ys) = flatL enc xs ++ flatL enc ys := by simp [flatL]
theorem flatL_len (E : Enc k enc) (xs : List α) : (flatL enc xs).length = xs.length * k := by
  induction xs with
  | nil => simp [flatL]
  | cons x xs ih => rw [flatL_cons, List.length_append, E.len, ih, List.length_cons, Nat.succ_mul]; omega
theorem flatL_get (E : Enc k enc) {xs : List α} {i j : Nat} {x : α} {v : Value} (h : xs[i]? = some x) (hv : (enc x)[j]? = some v) : (flatL enc xs)[i * k + j]? = some v := by
  have hj : j < k := by rw [← E.len x]; exact (List.getElem?_eq_some_iff.1 hv).1
  induction xs generalizing i with
  | nil => simp at h
  | cons y xs ih =>
    rw [flatL_cons]
    cases i with
    | zero =>
      obtain rfl : y = x := by simpa using h
      rw [Nat.zero_mul, Nat.zero_add, List.getElem?_append_left (by rw [E.len]; exact hj)]
      exact hv
    | succ i =>
      rw [List.getElem?_append_right (by rw [E.len, Nat.succ_mul]; omega), E.len, show (i + 1) * k + j - k = i * k + j by rw [Nat.succ_mul]; omega]
      exact ih (by simpa using h)
theorem flatL_mem (E : Enc k enc) {xs : List α} : ∀ u ∈ flatL enc xs, u.oneCell' = true := by
  intro u hu
  obtain ⟨x, _, hx⟩ := List.mem_flatMap.1 hu
  exact E.one x u hx
theorem flatL_take (E : Enc k enc) (xs : List α) (n : Nat) : (flatL enc xs).take (n * k) = flatL enc (xs.take n) := by
  induction xs generalizing n with
  | nil => simp [flatL]
  | cons x xs ih =>
    cases n with
    | zero => simp [flatL]
    | succ n =>
      rw [List.take_succ_cons, flatL_cons, flatL_cons, show (n + 1) * k = (enc x).length + n * k by rw [E.len, Nat.succ_mul]; omega, List.take_length_add_append, ih]
theorem flatL_at (E : Enc k enc) (xs : List α) (j : Nat) (u : Value) (h : (flatL enc xs)[j]? = some u) : ∃ x, xs[j / k]? = some x ∧ (enc x)[j % k]? = some u := by
  have hl : j < xs.length * k := by rw [← flatL_len E]; exact (List.getElem?_eq_some_iff.1 h).1
  have hd : j / k < xs.length := Nat.div_lt_of_lt_mul (by rw [Nat.mul_comm]; exact hl)
  have hm : j % k < k := Nat.mod_lt _ E.pos
  have hx : xs[j / k]? = some xs[j / k] := List.getElem?_eq_getElem hd
  have hv : (enc xs[j / k])[j % k]? = some ((enc xs[j / k])[j % k]'(by rw [E.len]; exact hm)) := List.getElem?_eq_getElem _
  have := flatL_get E hx hv
  rw [show j / k * k + j % k = j by rw [Nat.mul_comm]; exact Nat.div_add_mod j k, h] at this
  exact ⟨_, hx, by rw [hv, ← Option.some.inj this]⟩
theorem flatL_set2 (E : Enc 2 enc) (xs : List α) (i : Nat) (x : α) (a b : Value) (hx : enc x = [a, b]) (hi : i < xs.length) : flatL enc (xs.set i x) = ((flatL enc xs).set (i * 2) a).set (i * 2 + 1) b := by
  induction xs generalizing i with
  | nil => simp at hi
  | cons y xs ih =>
    obtain ⟨c, d, hy⟩ : ∃ c d, enc y = [c, d] := by
      have := E.len y
      match h : enc y, this with
      | [c, d], _ => exact ⟨c, d, rfl⟩
    cases i with
    | zero => simp [flatL_cons, hx, hy]
    | succ i =>
      rw [List.set_cons_succ, flatL_cons, flatL_cons, ih i (by simpa using hi), hy, show (i + 1) * 2 = i * 2 + 1 + 1 by omega]
      simp only [List.cons_append, List.nil_append, List.set_cons_succ]
end

/-- The slice value of the address p and the capacity c holds xs, each of k cells. -/
structure Rw {α : Type} (k : Nat) (enc : α → List Value) (w : World) (p : Option Addr) (c : Nat) (xs : List α) : Prop where
  rd : RdL k enc w p c xs
  bare : p = none → c = 0
section
variable {α : Type} {k : Nat} {enc : α → List Value} {w w' : World} {p : Option Addr} {c : Nat} {xs : List α}
theorem Rw.nil (k : Nat) (enc : α → List Value) (w : World) : Rw k enc w none 0 ([] : List α) := ⟨RdL.nil _ _ _ _ _ (by omega), fun _ => rfl⟩
theorem Rw.cap (h : Rw k enc w p c xs) : xs.length ≤ c := h.rd.cap
theorem Rw.max (h : Rw k enc w p c xs) : c ≤ 9223372036854775807 := h.rd.max
theorem Rw.cell {b o : Nat} (h : Rw k enc w (some ⟨b, o, none⟩) c xs) {i : Nat} {x : α} (hi : xs[i]? = some x) {j : Nat} {v : Value} (hv : (enc x)[j]? = some v) : w.cell? ⟨b, o + i * k + j, none⟩ = some v := by
  obtain ⟨b', o', hp, hc⟩ := h.rd.cells (by have := (List.getElem?_eq_some_iff.1 hi).1; omega)
  obtain ⟨rfl, rfl⟩ : b = b' ∧ o = o' := by simpa using hp
  exact hc i x hi j v hv
theorem Rw.parts (h : Rw k enc w p c xs) : xs = [] ∨ (0 < xs.length ∧ ∃ b o, p = some ⟨b, o, none⟩) := by
  rcases Nat.eq_zero_or_pos xs.length with hn | hn
  · exact .inl (List.eq_nil_of_length_eq_zero hn)
  · obtain ⟨b, o, rfl, _⟩ := h.rd.cells hn
    exact .inr ⟨hn, b, o, rfl⟩
theorem Rw.keep (h : Rw k enc w p c xs) (hb : 0 < xs.length → ∀ b o, p = some ⟨b, o, none⟩ → b < w.heap.size → w'.heap[b]? = w.heap[b]?) : Rw k enc w' p c xs :=
  ⟨⟨h.cap, h.max, fun hn => by
    obtain ⟨b, o, rfl, hc⟩ := h.rd.cells hn
    exact ⟨b, o, rfl, fun i x hx j v hv => by
      have h1 := hc i x hx j v hv
      exact (World.cell?_of_block (w := w) (w' := w') (a := ⟨b, o + i * k + j, none⟩) (hb hn b o rfl (World.block_lt_of_cell? _ _ h1))).trans h1⟩⟩, h.bare⟩
theorem Rw.kept (h : Rw k enc w p c xs) (hb : Grew w w') : Rw k enc w' p c xs := h.keep fun _ b _ _ hl => hb.block b hl
theorem Rw.chg {S : Nat → Prop} (h : Rw k enc w p c xs) (hc : Chg w w' S) (ha : ∀ a, p = some a → ¬ S a.block) : Rw k enc w' p c xs := h.keep fun _ b o e hl => hc.block b hl (ha ⟨b, o, none⟩ e)
theorem Rw.lt (E : Enc k enc) {b o : Nat} (h : Rw k enc w (some ⟨b, o, none⟩) c xs) (hn : 0 < xs.length) : b < w.heap.size := by
  have hv : (enc xs[0])[0]? = some ((enc xs[0])[0]'(by rw [E.len]; exact E.pos)) := List.getElem?_eq_getElem _
  exact World.block_lt_of_cell? _ _ (h.cell (List.getElem?_eq_getElem hn) hv)
theorem Rw.upto (h : Rw k enc w p c xs) (n : Nat) (hn : n ≤ xs.length) : Rw k enc w p c (xs.take n) :=
  ⟨⟨by have := h.cap; simp; omega, h.max, fun h0 => by
    have h1 : 0 < n := by simp at h0; omega
    obtain ⟨b, o, rfl, hc⟩ := h.rd.cells (by omega)
    refine ⟨b, o, rfl, fun i x hx => hc i x ?_⟩
    have hi : i < n := by have := (List.getElem?_eq_some_iff.1 hx).1; simp at this; omega
    rwa [List.getElem?_take_of_lt hi] at hx⟩, h.bare⟩
/-- A literal. -/
theorem Rw.made (E : Enc k enc) (w : World) (xs : List α) (n : Nat) (e : TypeId) (cs : Array Value) (fr : Nat × Nat) (hc : cs = (flatL enc xs).toArray) (hn : xs.length = n) (hs : n ≤ 9223372036854775807) : Rw k enc (w.alloc (.cells cs e fr)) (some ⟨w.heap.size, 0, none⟩) n xs := by
  subst hc hn
  refine ⟨⟨Nat.le_refl _, hs, fun _ => ⟨w.heap.size, 0, rfl, fun i x hi j v hv => ?_⟩⟩, fun h => (by cases h)⟩
  rw [World.cell?_alloc_mark, Nat.zero_add]
  simpa using flatL_get E hi hv
end

/-- A slice of such elements that the call itself has made. -/
def OwR {α : Type} (w : World) (base : Nat) (e : TypeId) (k : Nat) (enc : α → List Value) (v : Value) (xs : List α) : Prop := w.ownsRow base e k v xs.length (flatL enc xs)
section
variable {α : Type} {k : Nat} {enc : α → List Value} {w w' : World} {base : Nat} {e : TypeId} {xs : List α}
theorem OwR.nil (k : Nat) (enc : α → List Value) (w : World) (base : Nat) (e : TypeId) : OwR w base e k enc (.slice none 0 0) [] := World.ownsRow_nil w base e k
theorem OwR.parts (E : Enc k enc) {v : Value} (h : OwR w base e k enc v xs) : ∃ p c, v = .slice p xs.length c ∧ Rw k enc w p c xs ∧ ((p = none ∧ c = 0 ∧ xs = []) ∨ ∃ g cur, p = some ⟨g, 0, none⟩ ∧ base ≤ g ∧ w.heap[g]? = some (.cells cur e (0, 0)) ∧ cur.size = c * k ∧ cur.toList.take (xs.length * k) = flatL enc xs) := by
  have h0 := h
  rcases h.2 with ⟨rfl, hn⟩ | ⟨g, cap, cur, rfl, hb, hg, hc, hm, hs, ht⟩
  · obtain rfl : xs = [] := List.eq_nil_of_length_eq_zero hn
    exact ⟨none, 0, rfl, Rw.nil _ _ w, .inl ⟨rfl, rfl, rfl⟩⟩
  · refine ⟨some ⟨g, 0, none⟩, cap, rfl, ⟨⟨hc, by simpa [maxLen] using hm, fun _ => ⟨g, 0, rfl, fun i x hi j v hv => ?_⟩⟩, fun h => (by cases h)⟩, .inr ⟨g, cur, rfl, hb, hg, hs, ht⟩⟩
    have h1 := flatL_get E hi hv
    have h2 := (List.getElem?_eq_some_iff.1 h1).1
    rw [flatL_len E] at h2
    rw [Nat.zero_add, World.ownsRow.cellAt h0 _ h2]
    exact h1
theorem OwR.rd (E : Enc k enc) {p : Option Addr} {n c : Nat} (h : OwR w base e k enc (.slice p n c) xs) : n = xs.length ∧ Rw k enc w p c xs := by
  obtain ⟨p', c', hv, hb, _⟩ := h.parts E
  simp only [Value.slice.injEq] at hv
  obtain ⟨rfl, rfl, rfl⟩ := hv
  exact ⟨rfl, hb⟩
theorem OwR.place (E : Enc k enc) {p : Option Addr} {n c : Nat} (h : OwR w base e k enc (.slice p n c) xs) : ∀ a, p = some a → base ≤ a.block ∧ a.block < w.heap.size := by
  intro a ha
  obtain ⟨p', c', hv, _, hb⟩ := h.parts E
  simp only [Value.slice.injEq] at hv
  obtain ⟨rfl, rfl, rfl⟩ := hv
  rcases hb with ⟨rfl, _⟩ | ⟨g, cur, rfl, h1, h2, _⟩
  · cases ha
  · obtain rfl := Option.some.inj ha
    exact ⟨h1, (Array.getElem?_eq_some_iff.1 h2).1⟩
/-- The type of its block. -/
theorem OwR.kind (E : Enc k enc) {p : Option Addr} {n c : Nat} (h : OwR w base e k enc (.slice p n c) xs) : ∀ a, p = some a → ∃ cur, w.heap[a.block]? = some (.cells cur e (0, 0)) := by
  intro a ha
  obtain ⟨p', c', hv, _, hb⟩ := h.parts E
  simp only [Value.slice.injEq] at hv
  obtain ⟨rfl, rfl, rfl⟩ := hv
  rcases hb with ⟨rfl, _⟩ | ⟨g, cur, rfl, _, h2, _⟩
  · cases ha
  · obtain rfl := Option.some.inj ha
    exact ⟨cur, h2⟩
theorem OwR.keep {p : Option Addr} {n c : Nat} (h : OwR w base e k enc (.slice p n c) xs) (hb : ∀ a, p = some a → a.block < w.heap.size → w'.heap[a.block]? = w.heap[a.block]?) : OwR w' base e k enc (.slice p n c) xs := by
  refine ⟨h.1, ?_⟩
  rcases h.2 with hn | ⟨g, cap, cur, hv, h1, hg, rest⟩
  · exact .inl hn
  · have hp : p = some ⟨g, 0, none⟩ := by simp only [Value.slice.injEq] at hv; exact hv.1
    exact .inr ⟨g, cap, cur, hv, h1, by rw [hb _ hp (Array.getElem?_eq_some_iff.1 hg).1]; exact hg, rest⟩
theorem OwR.kept {p : Option Addr} {n c : Nat} (h : OwR w base e k enc (.slice p n c) xs) (hb : Grew w w') : OwR w' base e k enc (.slice p n c) xs := h.keep fun _ _ hl => hb.block _ hl
theorem OwR.chg {S : Nat → Prop} {p : Option Addr} {n c : Nat} (h : OwR w base e k enc (.slice p n c) xs) (hc : Chg w w' S) (ha : ∀ a, p = some a → ¬ S a.block) : OwR w' base e k enc (.slice p n c) xs := h.keep fun a e hl => hc.block _ hl (ha a e)
theorem OwR.down {base' : Nat} {v : Value} (h : OwR w base e k enc v xs) (hb : base' ≤ base) : OwR w base' e k enc v xs := by
  refine ⟨h.1, ?_⟩
  rcases h.2 with hn | ⟨g, cap, cur, hv, h1, r⟩
  · exact .inl hn
  · exact .inr ⟨g, cap, cur, hv, Nat.le_trans hb h1, r⟩
theorem OwR.free (E : Enc k enc) {b o n c : Nat} (h : OwR w base e k enc (.slice (some ⟨b, o, none⟩) n c) xs) (j : Nat) : o = 0 ∧ w.frozen? ⟨b, j, none⟩ = false := by
  have h0 := h
  obtain ⟨hn, _⟩ := h.rd E
  rcases h.2 with ⟨h', _⟩ | ⟨g, cap, cur, hv, _⟩
  · simp at h'
  · simp only [Value.slice.injEq, Option.some.injEq, Addr.mk.injEq, and_true] at hv
    obtain ⟨⟨rfl, rfl⟩, rfl, rfl⟩ := hv
    exact ⟨rfl, World.ownsRow.frozenAt (show World.ownsRow w base e k (.slice (some ⟨b, 0, none⟩) xs.length c) xs.length (flatL enc xs) from hn ▸ h0) j⟩
theorem OwR.at {p : Option Addr} {n c : Nat} (h : OwR w base e k enc (.slice p n c) xs) (hn : 0 < n) : ∃ g, p = some ⟨g, 0, none⟩ ∧ base ≤ g ∧ g < w.heap.size := by
  rcases h.2 with ⟨hv, _⟩ | ⟨g, cap, cur, hv, hb, hg, _⟩
  · simp only [Value.slice.injEq] at hv
    omega
  · simp only [Value.slice.injEq] at hv
    exact ⟨g, hv.1, hb, (Array.getElem?_eq_some_iff.1 hg).1⟩
/-- One element of two cells is stored. -/
theorem OwR.set2 {enc : α → List Value} (E : Enc 2 enc) {b n c : Nat} (h : OwR w base e 2 enc (.slice (some ⟨b, 0, none⟩) n c) xs) (i : Nat) (x : α) (a d : Value) (hx : enc x = [a, d]) (hi : i < xs.length) :
    OwR ((w.setCell ⟨b, i * 2, none⟩ a).setCell ⟨b, i * 2 + 1, none⟩ d) base e 2 enc (.slice (some ⟨b, 0, none⟩) n c) (xs.set i x) := by
  obtain ⟨rfl, _⟩ := h.rd E
  have h2 : World.ownsRow w base e 2 (.slice (some ⟨b, 0, none⟩) xs.length c) xs.length (flatL enc xs) := h
  have h3 := (World.ownsRow.stored h2 (i * 2) a).1
  have h4 := (World.ownsRow.stored h3 (i * 2 + 1) d).1
  show World.ownsRow _ _ _ _ _ _ _
  rw [List.length_set, flatL_set2 E xs i x a d hx hi]
  exact h4
/-- Its first elements. -/
theorem OwR.upto (E : Enc k enc) {p : Option Addr} {n c : Nat} (h : OwR w base e k enc (.slice p n c) xs) (m : Nat) (hm : m ≤ xs.length) : OwR w base e k enc (.slice p m c) (xs.take m) := by
  have hl : (xs.take m).length = m := by simp; omega
  refine ⟨by rw [hl, flatL_len E, hl], ?_⟩
  rw [hl]
  rcases h.2 with ⟨hv, h0⟩ | ⟨g, cap, cur, hv, h1, hg, h2, h3, h4, h5⟩
  · simp only [Value.slice.injEq] at hv
    exact .inl ⟨by simp only [Value.slice.injEq]; exact ⟨hv.1, by omega, hv.2.2⟩, by omega⟩
  · simp only [Value.slice.injEq] at hv
    refine .inr ⟨g, cap, cur, by simp only [Value.slice.injEq]; exact ⟨hv.1, trivial, hv.2.2⟩, h1, hg, by omega, h3, h4, ?_⟩
    rw [← flatL_take E, ← h5, List.take_take]
    congr 1
    exact (Nat.min_eq_left (Nat.mul_le_mul_right _ hm)).symm
theorem OwR.grown_below {N : Nat} {v : Value} (h : OwR w base e k enc v xs) (hg : w.grownBy w' v.ownBlock) (hN : N ≤ base) (hs : N ≤ w.heap.size) : Below N w w' :=
  (Below.refl N w).grown hg hs fun j hj => by
    have := (World.ownsRow.lt h j hj).1
    omega
theorem OwR.lit (E : Enc k enc) (w : World) (xs : List α) (n base : Nat) (e : TypeId) (cs : Array Value) (hc : cs = (flatL enc xs).toArray) (hn : xs.length = n) (hs : n ≤ 9223372036854775807) (hb : base ≤ w.heap.size) : OwR (w.alloc (.cells cs e)) base e k enc (.slice (some ⟨w.heap.size, 0, none⟩) n n) xs := by
  subst hc hn
  have := World.ownsRow_lit (base := base) (e := e) (size := k) w (flatL enc xs).toArray xs.length hb (by simpa [maxLen] using hs) (by simp [flatL_len E])
  exact this
end
theorem Chg.of_grownBy {w w' : World} {row : Option Nat} (h : w.grownBy w' row) : Chg w w' (fun k => row = some k) := ⟨h.os, h.tape, h.output, h.size, fun k hk hs => h.block k hk (fun e => hs e.symm)⟩
theorem ownBlock_sl (p : Option Addr) (n c : Nat) : Value.ownBlock (.slice p n c) = p.map (·.block) := by cases p <;> rfl

section
variable {α : Type} {k : Nat} {enc : α → List Value} {P : Program} {w : World} {ops : Array Oper} {rest : List Oper} {o : Oper} {a : Act} {Q : Exit → Act → World → Prop}
/-- 'append(out, b...)': out made by the call, b whatever. -/
theorem run_append_row (E : Enc k enc) (t ty : TypeId) (base : Nat) (e : TypeId) (z : Value) (by' : Nat) (ht : P.underlying t = some (.slice e)) (hi : (P.info? e).map (fun i => (i.zero, i.size, i.bytes)) = some (some z, k, by')) (hzs : z.cells.size = k)
    (v : Value) (xs : List α) (hown : OwR w base e k enc v xs) (p : Option Addr) (n c : Nat) (ys : List α) (hl : ys.length = n) (hin : Rw k enc w p c ys)
    (hbytes : (xs.length + ys.length) * by' ≤ 140737488355328) (h63 : xs.length + ys.length ≤ 9223372036854775807) (hbase : base ≤ w.heap.size) :
    ∃ v' w', (Builtin.append_ #[t, t] ty #[v, .slice p n c]).run P w = .ok v' w' ∧ OwR w' base e k enc v' (xs ++ ys) ∧ Below base w w' ∧ w.grownBy w' v.ownBlock ∧ (v'.ownBlock = v.ownBlock ∨ v'.ownBlock = some w.heap.size) := by
  obtain ⟨i, hi, hz0, hz1, hz2⟩ := info_parts hi
  subst hl
  cases p with
  | none =>
    have hc0 := hin.bare rfl
    obtain rfl : ys = [] := List.eq_nil_of_length_eq_zero (by have := hin.cap; omega)
    rw [hc0]
    refine ⟨v, w, run_append_owned_none (P := P) (w := w) base t ty e i k ht hi v xs.length (flatL enc xs) hown, by rw [List.append_nil]; exact hown, Below.refl _ _, ⟨rfl, rfl, rfl, Nat.le_refl _, fun _ _ _ => rfl⟩, .inl rfl⟩
  | some ad =>
    obtain ⟨v', w', hrun, h2, h3, _, h5⟩ := run_append_own_at (P := P) w base t ty e i z k by' ht hi hz0 hz1 hz2 hzs (by exact E.pos) v xs.length (flatL enc xs) hown ad ys.length c (flatL enc ys) (flatL_len E ys) (fun j u hj => by
      obtain ⟨x, hx, hu⟩ := flatL_at E ys j u hj
      obtain ⟨b, o, hp, hc⟩ := hin.rd.cells (Nat.lt_of_le_of_lt (Nat.zero_le _) (List.getElem?_eq_some_iff.1 hx).1)
      obtain rfl := Option.some.inj hp
      have h1 := hc _ x hx _ u hu
      rw [Go.WideShapes.add_plain]
      rwa [Nat.add_assoc, Nat.mul_comm, Nat.div_add_mod] at h1) (flatL_mem E) (by simp only [maxLen]; omega) hbytes hbase
    refine ⟨v', w', hrun, ?_, hown.grown_below h3 (Nat.le_refl _) hbase, h3, h5⟩
    show World.ownsRow _ _ _ _ _ _ _
    rw [List.length_append, flatL_append]
    exact h2
theorem wpList_append_row (E : Enc k enc) (hgd : o.guard = none) (s x : Operand) (t : TypeId)
    (ho : o.op = .call { callee := .builtin .append, args := #[s, x], argTypes := #[t, t] })
    (base : Nat) (e : TypeId) (z : Value) (by' : Nat) (ht : P.underlying t = some (.slice e)) (hi : (P.info? e).map (fun i => (i.zero, i.size, i.bytes)) = some (some z, k, by')) (hzs : z.cells.size = k)
    (v : Value) (xs : List α) (hs : a.eval s = v) (hown : OwR w base e k enc v xs)
    (p : Option Addr) (n c : Nat) (ys : List α) (hx : a.eval x = .slice p n c) (hl : ys.length = n) (hin : Rw k enc w p c ys)
    (hbytes : (xs.length + ys.length) * by' ≤ 140737488355328) (h63 : xs.length + ys.length ≤ 9223372036854775807) (hbase : base ≤ w.heap.size)
    (h : ∀ p' c' zs w', Hid (zs = xs ++ ys) → OwR w' base e k enc (.slice p' zs.length c') zs → Below base w w' → Chg w w' (fun j => v.ownBlock = some j) → wpList P ops Q rest (a.put o.dst (.slice p' zs.length c')) w') : wpList P ops Q (o :: rest) a w := by
  obtain ⟨v', w', hrun, h2, h3, h4, _⟩ := run_append_row (P := P) E t o.type base e z by' ht hi hzs v xs hown p n c ys hl hin hbytes h63 hbase
  obtain ⟨p', c', rfl, _, _⟩ := h2.parts E
  refine wpList_plain hgd fun K hK => ?_
  unfold Oper.wp
  simp [execOp, ho, resolve, invoke, builtin, hs, hx, hrun, Result.andThen]
  have := h p' c' _ w' rfl h2 h3 (Chg.of_grownBy h4)
  rw [List.length_append] at this
  exact hK _ _ this
/-- The same as an operation of a region that draws. -/
theorem runs_append_row (E : Enc k enc) {s x : Operand} {t ty : TypeId} {dst : Option Tmp} {pos : String} {after : Array Edge} {g : Option (Nat × Bool)} {T : Value → World → Prop}
    (base : Nat) (e : TypeId) (z : Value) (by' : Nat) (ht : P.underlying t = some (.slice e)) (hi : (P.info? e).map (fun i => (i.zero, i.size, i.bytes)) = some (some z, k, by')) (hzs : z.cells.size = k)
    (v : Value) (xs : List α) (hs : a.eval s = v) (hown : OwR w base e k enc v xs)
    (p : Option Addr) (n c : Nat) (ys : List α) (hx : a.eval x = .slice p n c) (hl : ys.length = n) (hin : Rw k enc w p c ys)
    (hbytes : (xs.length + ys.length) * by' ≤ 140737488355328) (h63 : xs.length + ys.length ≤ 9223372036854775807) (hbase : base ≤ w.heap.size)
    (h : ∀ p' c' w', OwR w' base e k enc (.slice p' (xs.length + ys.length) c') (xs ++ ys) → Below base w w' → Chg w w' (fun j => v.ownBlock = some j) → T (.slice p' (xs.length + ys.length) c') w') :
    Runs P ⟨dst, .call { callee := .builtin .append, args := #[s, x], argTypes := #[t, t] }, ty, pos, after, g⟩ a w T := by
  obtain ⟨v', w', hrun, h2, h3, h4, _⟩ := run_append_row (P := P) E t ty base e z by' ht hi hzs v xs hown p n c ys hl hin hbytes h63 hbase
  obtain ⟨p', c', rfl, _, _⟩ := h2.parts E
  rw [List.length_append] at h2 hrun
  refine Runs.value (v := .slice p' (xs.length + ys.length) c') (w' := w') ?_ (h p' c' w' h2 h3 (Chg.of_grownBy h4))
  simp [execOp, resolve, invoke, builtin, hs, hx, hrun, Result.andThen]
end
/-- An argument that is a slice of such a type. -/
theorem bare_opened {H : Type} {enc : TypeId × Value → H} {P : Program} {W : World} {base : Nat} {spare : Nat → Bool} {held : Bool} {t e : TypeId} (ht : P.underlying t = some (.slice e)) {a0 : Option Addr} {len cap : Nat} {d0 : DataW H} {p : List MemPlace} (h : DataW.Trod enc P W base spare held t (.slice a0 len cap) d0 p) : a0 = none → cap = 0 := fun h0 => by
  obtain ⟨fuel, hf⟩ := h
  rcases Go.Deep.open_slice ht hf with ⟨hcs, _⟩ | ⟨a, len', cap', m, n, D, Pl, hcs, _⟩
  · simp [Value.cells] at hcs
    exact hcs.2.2
  · simp [Value.cells] at hcs
    rw [h0] at hcs
    cases hcs.1
end Go.Proofs.YtcajamgajchheaaDoor
