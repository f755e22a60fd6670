/-
  LAYER 6 (deadlinequeue): slices of structs of three integers; how the arguments of the statements come in.
-/
import Derived.Test.YtjcoghjkjnhljaaDqEx
import Derived.Test.YtjcoghjkjnhljaaDqLaw2
import Derived.Test.YtjcoghjkjnhljaaVals
import Derived.Deep.SlicePairs
import Derived.Deep.Strs
import Derived.Lib.SmallJoins
namespace Go.Proofs.Ytjcoghjkjnhljaa
open Go Go.RowKit Go.ChangeShapes Go.WideShapes Go.ChangeAt
set_option linter.unusedSimpArgs false

abbrev Opx := Int × Int × Int
abbrev opv (x : Opx) : Value := .agg #[.int .i64 x.1, .int .i64 x.2.1, .int .i64 x.2.2]
/-- The slice of operations reads as xs. -/
structure RdO (w : World) (p : Option Addr) (c : Nat) (xs : List Opx) : Prop where
  cap : xs.length ≤ c
  max : c ≤ 9223372036854775807
  cells : 0 < xs.length → ∃ b o, p = some ⟨b, o, none⟩ ∧ ∀ i x, xs[i]? = some x → w.cell? ⟨b, o + i * 3, none⟩ = some (.int .i64 x.1) ∧ w.cell? ⟨b, o + i * 3 + 1, none⟩ = some (.int .i64 x.2.1) ∧ w.cell? ⟨b, o + i * 3 + 2, none⟩ = some (.int .i64 x.2.2)
theorem RdO.kept {w w' : World} {p : Option Addr} {c : Nat} {xs : List Opx} (h : RdO w p c xs) (hb : Below w.heap.size w w') : RdO w' p c xs :=
  ⟨h.cap, h.max, fun hn => by
    obtain ⟨b, o, rfl, hc⟩ := h.cells hn
    refine ⟨b, o, rfl, fun i e hi => ?_⟩
    obtain ⟨h1, h2, h3⟩ := hc i e hi
    exact ⟨(hb.cell (p := ⟨b, o + i * 3, none⟩) (World.block_lt_of_cell? _ _ h1)).trans h1, (hb.cell (p := ⟨b, o + i * 3 + 1, none⟩) (World.block_lt_of_cell? _ _ h2)).trans h2, (hb.cell (p := ⟨b, o + i * 3 + 2, none⟩) (World.block_lt_of_cell? _ _ h3)).trans h3⟩⟩
theorem RdO.at {w : World} {p : Option Addr} {c : Nat} {xs : List Opx} (h : RdO w p c xs) {i : Nat} (hi : i < xs.length) : ∃ b o, p = some ⟨b, o, none⟩ ∧ w.cell? ⟨b, o + i * 3, none⟩ = some (.int .i64 (xs.getD i (0, 0, 0)).1) ∧ w.cell? ⟨b, o + i * 3 + 1, none⟩ = some (.int .i64 (xs.getD i (0, 0, 0)).2.1) ∧ w.cell? ⟨b, o + i * 3 + 2, none⟩ = some (.int .i64 (xs.getD i (0, 0, 0)).2.2) := by
  obtain ⟨b, o, hp, hc⟩ := h.cells (by omega)
  exact ⟨b, o, hp, hc i _ (by simp [List.getD, hi])⟩
def opOk (xs : List Opx) : Prop := ∀ x ∈ xs, In64 x.1 ∧ In64 x.2.1 ∧ In64 x.2.2
theorem opOk.at {xs : List Opx} (h : opOk xs) {k : Nat} (hk : k < xs.length) : In64 (xs.getD k (0, 0, 0)).2.1 ∧ In64 (xs.getD k (0, 0, 0)).2.2 := by
  have e : xs.getD k (0, 0, 0) = xs[k] := by simp [List.getD, hk]
  rw [e]
  exact (h _ (List.getElem_mem hk)).2
section
variable {H : Type} {enc : TypeId × Value → H} {P : Program} {W : World}
theorem slice_form' {t e : TypeId} {fuel : Nat} {v : Value} {y : DataW H × List MemPlace} (ht : P.underlying t = some (.slice e)) (h : DataW.trod enc P W 0 (fun _ => true) true fuel t [v] = some y) : ∃ p n c, v = .slice p n c := by
  rcases Go.Deep.open_slice ht h with ⟨hc, _⟩ | ⟨a, len, cap, _, _, _, _, hc, _⟩
  · simp only [List.cons.injEq, and_true] at hc
    exact ⟨_, _, _, hc⟩
  · simp only [List.cons.injEq, and_true] at hc
    exact ⟨_, _, _, hc⟩
theorem RdI.opened {t e : TypeId} {f0 f1 : Field} (ht : P.underlying t = some (.slice e)) (he : P.underlying e = some (.struct #[f0, f1]))
    (ce : P.cellsOf e = 2) (o0 : f0.offset = 0) (o1 : f1.offset = 1) (c0 : P.cellsOf f0.type = 1) (c1 : P.cellsOf f1.type = 1) (h0 : P.underlying f0.type = some (.int .i64)) (h1 : P.underlying f1.type = some (.int .i64))
    {a0 : Option Addr} {len cap : Nat} {d0 : DataW H} {p : List MemPlace} (h : DataW.Trod enc P W 0 (fun _ => true) true t (.slice a0 len cap) d0 p) :
    ∃ l : List It, l.length = len ∧ RdI W a0 cap l ∧ itOk l := by
  obtain ⟨fuel, hf⟩ := h
  rcases Go.Deep.open_slice_pairs ht he ce o0 o1 c0 c1 hf with ⟨hcs, _⟩ | ⟨a, len', cap', m, n, V0, V1, D0, D1, P0, P1, hcs, _, hl, hm', hmm, _, hall⟩
  · simp [Value.cells] at hcs
    obtain ⟨rfl, rfl, rfl⟩ := hcs
    exact ⟨[], rfl, RdI.nil _, fun x h => by cases h⟩
  · simp [Value.cells] at hcs
    obtain ⟨rfl, rfl, rfl⟩ := hcs
    simp only [if_true] at hmm
    subst hmm
    have each : ∀ i, i < m → ∃ q : It, W.cell? (a.add (i * 2)) = some (.int .i64 q.1) ∧ W.cell? (a.add (i * 2 + 1)) = some (.int .i64 q.2) ∧ In64 q.1 ∧ In64 q.2 := fun i hi => by
      obtain ⟨g0, g1, g2, g3⟩ := hall i hi
      obtain ⟨z, hz, _, hw⟩ := DataW.trod_int h0 g2
      obtain ⟨b, hb, _, hw'⟩ := DataW.trod_int h1 g3
      simp only [List.cons.injEq, and_true] at hz hb
      exact ⟨(z, b), by rw [g0, hz], by rw [g1, hb], by simpa [Lit.wf, IntKind.min, IntKind.max, IntKind.bits, IntKind.signed, In64] using hw, by simpa [Lit.wf, IntKind.min, IntKind.max, IntKind.bits, IntKind.signed, In64] using hw'⟩
    let q : Nat → It := fun i => if h : i < m then (each i h).choose else (0, 0)
    have hq : ∀ i, i < m → W.cell? (a.add (i * 2)) = some (.int .i64 (q i).1) ∧ W.cell? (a.add (i * 2 + 1)) = some (.int .i64 (q i).2) ∧ In64 (q i).1 ∧ In64 (q i).2 := fun i hi => by
      have := (each i hi).choose_spec
      simpa only [q, hi, dif_pos] using this
    refine ⟨(List.range len).map q, by simp, ⟨by simpa using hl, by simpa [maxLen] using hm', fun h => (by cases h), fun h => ?_⟩, fun x hx => ?_⟩
    · simp at h
      obtain ⟨b, o, s⟩ := a
      obtain rfl : s = none := by simpa [Addr.add] using World.cell?_spot (hq 0 (by omega)).1
      refine ⟨b, o, rfl, fun i e hi => ?_⟩
      have hil := (List.getElem?_eq_some_iff.1 hi).1
      simp at hil
      have he : e = q i := by simpa [hil] using hi.symm
      subst he
      have := hq i (by omega)
      rw [Go.WideShapes.add_plain, Go.WideShapes.add_plain] at this
      exact ⟨this.1, by rw [Nat.add_assoc]; exact this.2.1⟩
    · obtain ⟨i, hi, rfl⟩ := List.mem_map.1 hx
      exact (hq i (by have := List.mem_range.1 hi; omega)).2.2
theorem RdO.opened {t e : TypeId} {f0 f1 f2 : Field} (ht : P.underlying t = some (.slice e)) (he : P.underlying e = some (.struct #[f0, f1, f2]))
    (ce : P.cellsOf e = 3) (o0 : f0.offset = 0) (o1 : f1.offset = 1) (o2 : f2.offset = 2) (c0 : P.cellsOf f0.type = 1) (c1 : P.cellsOf f1.type = 1) (c2 : P.cellsOf f2.type = 1) (h0 : P.underlying f0.type = some (.int .i64)) (h1 : P.underlying f1.type = some (.int .i64)) (h2 : P.underlying f2.type = some (.int .i64))
    {a0 : Option Addr} {len cap : Nat} {d0 : DataW H} {p : List MemPlace} (h : DataW.Trod enc P W 0 (fun _ => true) true t (.slice a0 len cap) d0 p) :
    ∃ l : List Opx, l.length = len ∧ RdO W a0 cap l ∧ opOk l := by
  obtain ⟨fuel, hf⟩ := h
  rcases Go.Deep.open_slice ht hf with ⟨hcs, _⟩ | ⟨a, len', cap', m, n, D, Pl, hcs, _, hl, hm', hmm, _, hall⟩
  · simp [Value.cells] at hcs
    obtain ⟨rfl, rfl, rfl⟩ := hcs
    exact ⟨[], rfl, ⟨Nat.le_refl _, by omega, fun h => absurd h (Nat.lt_irrefl 0)⟩, fun x h => by cases h⟩
  · simp [Value.cells] at hcs
    obtain ⟨rfl, rfl, rfl⟩ := hcs
    simp only [if_true] at hmm
    subst hmm
    have each : ∀ i, i < m → ∃ q : Opx, W.cell? (a.add (i * 3)) = some (.int .i64 q.1) ∧ W.cell? (a.add (i * 3 + 1)) = some (.int .i64 q.2.1) ∧ W.cell? (a.add (i * 3 + 2)) = some (.int .i64 q.2.2) ∧ In64 q.1 ∧ In64 q.2.1 ∧ In64 q.2.2 := fun i hi => by
      obtain ⟨cs', g0, g1⟩ := hall i hi
      rw [ce] at g0
      obtain ⟨_, hlen, hcell⟩ := World.cells?_some g0
      obtain ⟨y0, y1, y2, k, _, _, k0, k1, k2⟩ := Go.Deep.trod_struct3 he g1
      match cs', hlen with
      | [v0, v1, v2], _ =>
        simp [o0, o1, o2, c0, c1, c2] at k0 k1 k2
        obtain ⟨z0, e0, _, w0⟩ := DataW.trod_int h0 k0
        obtain ⟨z1, e1, _, w1⟩ := DataW.trod_int h1 k1
        obtain ⟨z2, e2, _, w2⟩ := DataW.trod_int h2 k2
        simp only [List.cons.injEq, and_true] at e0 e1 e2
        subst e0 e1 e2
        have q0 := hcell 0 (by omega)
        have q1 := hcell 1 (by omega)
        have q2 := hcell 2 (by omega)
        rw [Go.Deep.add_add] at q0 q1 q2
        exact ⟨(z0, z1, z2), by simpa using q0, by simpa using q1, by simpa using q2, by simpa [Lit.wf, IntKind.min, IntKind.max, IntKind.bits, IntKind.signed, In64] using w0, by simpa [Lit.wf, IntKind.min, IntKind.max, IntKind.bits, IntKind.signed, In64] using w1, by simpa [Lit.wf, IntKind.min, IntKind.max, IntKind.bits, IntKind.signed, In64] using w2⟩
    let q : Nat → Opx := fun i => if h : i < m then (each i h).choose else (0, 0, 0)
    have hq : ∀ i, i < m → W.cell? (a.add (i * 3)) = some (.int .i64 (q i).1) ∧ W.cell? (a.add (i * 3 + 1)) = some (.int .i64 (q i).2.1) ∧ W.cell? (a.add (i * 3 + 2)) = some (.int .i64 (q i).2.2) ∧ In64 (q i).1 ∧ In64 (q i).2.1 ∧ In64 (q i).2.2 := fun i hi => by
      have := (each i hi).choose_spec
      simpa only [q, hi, dif_pos] using this
    refine ⟨(List.range len).map q, by simp, ⟨by simpa using hl, by simpa [maxLen] using hm', fun h => ?_⟩, fun x hx => ?_⟩
    · simp at h
      obtain ⟨b, o, s⟩ := a
      obtain rfl : s = none := by simpa [Addr.add] using World.cell?_spot (hq 0 (by omega)).1
      refine ⟨b, o, rfl, fun i e hi => ?_⟩
      have hil := (List.getElem?_eq_some_iff.1 hi).1
      simp at hil
      have he : e = q i := by simpa [hil] using hi.symm
      subst he
      have := hq i (by omega)
      rw [Go.WideShapes.add_plain, Go.WideShapes.add_plain, Go.WideShapes.add_plain] at this
      exact ⟨this.1, by rw [Nat.add_assoc]; exact this.2.1, by rw [Nat.add_assoc]; exact this.2.2.1⟩
    · obtain ⟨i, hi, rfl⟩ := List.mem_map.1 hx
      exact (hq i (by have := List.mem_range.1 hi; omega)).2.2.2
end
/-- What a call does with the queue it does above the memory that was there. -/
theorem QRep.below {w w' : World} {N q : Nat} {L : List It} (h : QRep w q L) (ho : Off w.heap.size q w w') (hN : N ≤ w.heap.size) (hq : N ≤ q) : Below N w w' := by
  obtain ⟨d, h1, _⟩ := h
  exact h1.below ho hN hq
theorem stepL_len (L : List It) (k i t : Int) : (stepL L k i t).length ≤ L.length + 1 := by
  have h1 : (pushL L (i, t)).length = (rem i L).length + 1 := pushL_len L (i, t)
  have h2 := rem_len_le i L
  unfold stepL
  split
  · omega
  · split
    · omega
    · split
      · simp; omega
      · omega
theorem QRep.ids {w : World} {q : Nat} {L : List It} (h : QRep w q L) : Ids L := let ⟨_, _, h2⟩ := h; h2.ids
end Go.Proofs.Ytjcoghjkjnhljaa
