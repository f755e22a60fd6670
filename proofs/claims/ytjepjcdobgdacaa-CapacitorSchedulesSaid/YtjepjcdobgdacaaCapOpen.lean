/-
  LAYER 8 (capacitor): how the arguments of the statements come in.
-/
import Derived.Test.YtjepjcdobgdacaaCapLaw1
import Derived.Deep.SlicePairs
import Derived.Deep.Strs
import Derived.Lib.SmallJoins
namespace Go.Proofs.Ytjepjcdobgdacaa
open Go Go.RowKit Go.ChangeShapes Go.WideShapes Go.ChangeAt
set_option linter.unusedSimpArgs false

abbrev In64 (i : Int) : Prop := -9223372036854775808 ≤ i ∧ i ≤ 9223372036854775807
def itOk (xs : List It) : Prop := ∀ x ∈ xs, In64 x.1 ∧ In64 x.2
section
variable {H : Type} {enc : TypeId × Value → H} {P : Program} {W : World}
theorem cfg_opened {r : Reach} {b0 : Nat} {t : TypeId} {f0 f1 f2 : Field} {v : Value} {d : DataW H} {p : List MemPlace} (hs : P.underlying t = some (.struct #[f0, f1, f2])) (hone : Go.Deep.oneCellFields P #[f0, f1, f2] = true) (hC : P.cellsOf t = 3)
    (h0 : P.underlying f0.type = some (.int .i64)) (h1 : P.underlying f1.type = some (.int .i64)) (h2 : P.underlying f2.type = some (.int .i64)) (hv : Value.okWide P W r b0 t v) (h : DataW.Trod enc P W 0 (fun _ => true) true t v d p) :
    ∃ c o f : Int, v = cfv c o f ∧ In64 c ∧ In64 o ∧ In64 f := by
  obtain ⟨v0, v1, v2, y0, y1, y2, n, rfl, _, _, k0, k1, k2⟩ := Go.Joins.open_agg3 hs hone hC hv h
  obtain ⟨z0, e0, _, w0⟩ := DataW.trod_int h0 k0
  obtain ⟨z1, e1, _, w1⟩ := DataW.trod_int h1 k1
  obtain ⟨z2, e2, _, w2⟩ := DataW.trod_int h2 k2
  simp only [List.cons.injEq, and_true] at e0 e1 e2
  subst e0 e1 e2
  exact ⟨z0, z1, z2, rfl, by simpa [Lit.wf, IntKind.min, IntKind.max, IntKind.bits, IntKind.signed, In64] using w0, by simpa [Lit.wf, IntKind.min, IntKind.max, IntKind.bits, IntKind.signed, In64] using w1, by simpa [Lit.wf, IntKind.min, IntKind.max, IntKind.bits, IntKind.signed, In64] using w2⟩
theorem RdI.opened {t e : TypeId} {f0 f1 : Field} (ht : P.underlying t = some (.slice e)) (he : P.underlying e = some (.struct #[f0, f1]))
    (ce : P.cellsOf e = 2) (o0 : f0.offset = 0) (o1 : f1.offset = 1) (c0 : P.cellsOf f0.type = 1) (c1 : P.cellsOf f1.type = 1) (h0 : P.underlying f0.type = some (.int .i64)) (h1 : P.underlying f1.type = some (.int .i64))
    {a0 : Option Addr} {len cap : Nat} {d0 : DataW H} {p : List MemPlace} (h : DataW.Trod enc P W 0 (fun _ => true) true t (.slice a0 len cap) d0 p) :
    ∃ l : List It, l.length = len ∧ RdI W a0 cap l ∧ itOk l := by
  obtain ⟨fuel, hf⟩ := h
  rcases Go.Deep.open_slice_pairs ht he ce o0 o1 c0 c1 hf with ⟨hcs, _⟩ | ⟨a, len', cap', m, n, V0, V1, D0, D1, P0, P1, hcs, _, hl, hm', hmm, _, hall⟩
  · simp [Value.cells] at hcs
    obtain ⟨rfl, rfl, rfl⟩ := hcs
    exact ⟨[], rfl, RdI.nil _, fun x h => by cases h⟩
  · simp [Value.cells] at hcs
    obtain ⟨rfl, rfl, rfl⟩ := hcs
    simp only [if_true] at hmm
    subst hmm
    have each : ∀ i, i < m → ∃ q : It, W.cell? (a.add (i * 2)) = some (.int .i64 q.1) ∧ W.cell? (a.add (i * 2 + 1)) = some (.int .i64 q.2) ∧ In64 q.1 ∧ In64 q.2 := fun i hi => by
      obtain ⟨g0, g1, g2, g3⟩ := hall i hi
      obtain ⟨z, hz, _, hw⟩ := DataW.trod_int h0 g2
      obtain ⟨b, hb, _, hw'⟩ := DataW.trod_int h1 g3
      simp only [List.cons.injEq, and_true] at hz hb
      exact ⟨(z, b), by rw [g0, hz], by rw [g1, hb], by simpa [Lit.wf, IntKind.min, IntKind.max, IntKind.bits, IntKind.signed, In64] using hw, by simpa [Lit.wf, IntKind.min, IntKind.max, IntKind.bits, IntKind.signed, In64] using hw'⟩
    let q : Nat → It := fun i => if h : i < m then (each i h).choose else (0, 0)
    have hq : ∀ i, i < m → W.cell? (a.add (i * 2)) = some (.int .i64 (q i).1) ∧ W.cell? (a.add (i * 2 + 1)) = some (.int .i64 (q i).2) ∧ In64 (q i).1 ∧ In64 (q i).2 := fun i hi => by
      have := (each i hi).choose_spec
      simpa only [q, hi, dif_pos] using this
    refine ⟨(List.range len).map q, by simp, ⟨by simpa using hl, by simpa [maxLen] using hm', fun h => (by cases h), fun h => ?_⟩, fun x hx => ?_⟩
    · simp at h
      obtain ⟨b, o, s⟩ := a
      obtain rfl : s = none := by simpa [Addr.add] using World.cell?_spot (hq 0 (by omega)).1
      refine ⟨b, o, rfl, fun i e hi => ?_⟩
      have hil := (List.getElem?_eq_some_iff.1 hi).1
      simp at hil
      have he : e = q i := by simpa [hil] using hi.symm
      subst he
      have := hq i (by omega)
      rw [Go.WideShapes.add_plain, Go.WideShapes.add_plain] at this
      exact ⟨this.1, by rw [Nat.add_assoc]; exact this.2.1⟩
    · obtain ⟨i, hi, rfl⟩ := List.mem_map.1 hx
      exact (hq i (by have := List.mem_range.1 hi; omega)).2.2
theorem RdA.opened {t e : TypeId} {f0 f1 f2 : Field} (ht : P.underlying t = some (.slice e)) (he : P.underlying e = some (.struct #[f0, f1, f2]))
    (ce : P.cellsOf e = 3) (o0 : f0.offset = 0) (o1 : f1.offset = 1) (o2 : f2.offset = 2) (c0 : P.cellsOf f0.type = 1) (c1 : P.cellsOf f1.type = 1) (c2 : P.cellsOf f2.type = 1) (h0 : P.underlying f0.type = some .bool) (h1 : P.underlying f1.type = some (.int .i64)) (h2 : P.underlying f2.type = some (.int .i64))
    {a0 : Option Addr} {len cap : Nat} {d0 : DataW H} {p : List MemPlace} (h : DataW.Trod enc P W 0 (fun _ => true) true t (.slice a0 len cap) d0 p) :
    ∃ l : List Ac, l.length = len ∧ RdA W a0 cap l ∧ acOk l := by
  obtain ⟨fuel, hf⟩ := h
  rcases Go.Deep.open_slice ht hf with ⟨hcs, _⟩ | ⟨a, len', cap', m, n, D, Pl, hcs, _, hl, hm', hmm, _, hall⟩
  · simp [Value.cells] at hcs
    obtain ⟨rfl, rfl, rfl⟩ := hcs
    exact ⟨[], rfl, ⟨Nat.le_refl _, by omega, fun h => absurd h (Nat.lt_irrefl 0)⟩, fun x h => by cases h⟩
  · simp [Value.cells] at hcs
    obtain ⟨rfl, rfl, rfl⟩ := hcs
    simp only [if_true] at hmm
    subst hmm
    have each : ∀ i, i < m → ∃ q : Ac, W.cell? (a.add (i * 3)) = some (.bool q.1) ∧ W.cell? (a.add (i * 3 + 1)) = some (.int .i64 q.2.1) ∧ W.cell? (a.add (i * 3 + 2)) = some (.int .i64 q.2.2) ∧ In64 q.2.1 ∧ In64 q.2.2 := fun i hi => by
      obtain ⟨cs', g0, g1⟩ := hall i hi
      rw [ce] at g0
      obtain ⟨_, hlen, hcell⟩ := World.cells?_some g0
      obtain ⟨y0, y1, y2, k, _, _, k0, k1, k2⟩ := Go.Deep.trod_struct3 he g1
      match cs', hlen with
      | [v0, v1, v2], _ =>
        simp [o0, o1, o2, c0, c1, c2] at k0 k1 k2
        obtain ⟨z0, e0, _⟩ := DataW.trod_bool h0 k0
        obtain ⟨z1, e1, _, w1⟩ := DataW.trod_int h1 k1
        obtain ⟨z2, e2, _, w2⟩ := DataW.trod_int h2 k2
        simp only [List.cons.injEq, and_true] at e0 e1 e2
        subst e0 e1 e2
        have q0 := hcell 0 (by omega)
        have q1 := hcell 1 (by omega)
        have q2 := hcell 2 (by omega)
        rw [Go.Deep.add_add] at q0 q1 q2
        exact ⟨(z0, z1, z2), by simpa using q0, by simpa using q1, by simpa using q2, by simpa [Lit.wf, IntKind.min, IntKind.max, IntKind.bits, IntKind.signed, In64] using w1, by simpa [Lit.wf, IntKind.min, IntKind.max, IntKind.bits, IntKind.signed, In64] using w2⟩
    let q : Nat → Ac := fun i => if h : i < m then (each i h).choose else (false, 0, 0)
    have hq : ∀ i, i < m → W.cell? (a.add (i * 3)) = some (.bool (q i).1) ∧ W.cell? (a.add (i * 3 + 1)) = some (.int .i64 (q i).2.1) ∧ W.cell? (a.add (i * 3 + 2)) = some (.int .i64 (q i).2.2) ∧ In64 (q i).2.1 ∧ In64 (q i).2.2 := fun i hi => by
      have := (each i hi).choose_spec
      simpa only [q, hi, dif_pos] using this
    refine ⟨(List.range len).map q, by simp, ⟨by simpa using hl, by simpa [maxLen] using hm', fun h => ?_⟩, fun x hx => ?_⟩
    · simp at h
      obtain ⟨b, o, s⟩ := a
      obtain rfl : s = none := by simpa [Addr.add] using World.cell?_spot (hq 0 (by omega)).1
      refine ⟨b, o, rfl, fun i e hi => ?_⟩
      have hil := (List.getElem?_eq_some_iff.1 hi).1
      simp at hil
      have he : e = q i := by simpa [hil] using hi.symm
      subst he
      have := hq i (by omega)
      rw [Go.WideShapes.add_plain, Go.WideShapes.add_plain, Go.WideShapes.add_plain] at this
      exact ⟨this.1, by rw [Nat.add_assoc]; exact this.2.1, by rw [Nat.add_assoc]; exact this.2.2.1⟩
    · obtain ⟨i, hi, rfl⟩ := List.mem_map.1 hx
      exact (hq i (by have := List.mem_range.1 hi; omega)).2.2.2
end
end Go.Proofs.Ytjepjcdobgdacaa
