/-
  LAYER 7 (nvm): how the operations of the statements come in.
-/
import Derived.Test.YtmfahmbebpojpaaNvAll
namespace Go.Proofs.Ytmfahmbebpojpaa
open Go Go.RowKit Go.ChangeShapes Go.WideShapes Go.ChangeAt
set_option linter.unusedSimpArgs false

section
variable {H : Type} {enc : TypeId × Value → H} {P : Program} {W : World}
theorem RdM.opened {t e q : TypeId} {f0 f1 f2 f3 : Field} (ht : P.underlying t = some (.slice e)) (he : P.underlying e = some (.struct #[f0, f1, f2, f3]))
    (ce : P.cellsOf e = 4) (o0 : f0.offset = 0) (o1 : f1.offset = 1) (o2 : f2.offset = 2) (o3 : f3.offset = 3) (c0 : P.cellsOf f0.type = 1) (c1 : P.cellsOf f1.type = 1) (c2 : P.cellsOf f2.type = 1) (c3 : P.cellsOf f3.type = 1)
    (h0 : P.underlying f0.type = some (.int .u8)) (h1 : P.underlying f1.type = some (.int .i64)) (h2 : P.underlying f2.type = some (.int .i64)) (h3 : P.underlying f3.type = some (.slice q)) (hq : P.underlying q = some (.int .u8)) (cq : P.cellsOf q = 1)
    {a0 : Option Addr} {len cap : Nat} {d0 : DataW H} {p : List MemPlace} (h : DataW.Trod enc P W 0 (fun _ => true) true t (.slice a0 len cap) d0 p) :
    ∃ l : List OpM, l.length = len ∧ RdM W a0 cap l := by
  obtain ⟨fuel, hf⟩ := h
  rcases Go.Deep.open_slice ht hf with ⟨hcs, _⟩ | ⟨a, len', cap', m, n, D, Pl, hcs, _, hl, hm', hmm, _, hall⟩
  · simp [Value.cells] at hcs
    obtain ⟨rfl, rfl, rfl⟩ := hcs
    exact ⟨[], rfl, ⟨Nat.le_refl _, by omega, fun h => absurd h (Nat.lt_irrefl 0), fun x h => (by cases h), fun x h => (by cases h)⟩⟩
  · simp [Value.cells] at hcs
    obtain ⟨rfl, rfl, rfl⟩ := hcs
    simp only [if_true] at hmm
    subst hmm
    have each : ∀ i, i < m → ∃ o : OpM, W.cell? (a.add (i * 4)) = some (.int .u8 o.kd) ∧ W.cell? (a.add (i * 4 + 1)) = some (.int .i64 o.ad) ∧ W.cell? (a.add (i * 4 + 2)) = some (.int .i64 o.nn) ∧ W.cell? (a.add (i * 4 + 3)) = some (.slice o.bp o.ys.length o.bc) ∧ Bin W o.bp o.bc o.ys ∧ o.ok := fun i hi => by
      obtain ⟨cs', g0, g1⟩ := hall i hi
      rw [ce] at g0
      obtain ⟨_, hlen, hcell⟩ := World.cells?_some g0
      obtain ⟨y0, y1, y2, y3, k, _, _, k0, k1, k2, k3⟩ := Go.Joins.trod_struct4 he g1
      match cs', hlen with
      | [v0, v1, v2, v3], _ =>
        simp [o0, o1, o2, o3, c0, c1, c2, c3] at k0 k1 k2 k3
        obtain ⟨z0, e0, _, w0⟩ := DataW.trod_int h0 k0
        obtain ⟨z1, e1, _, w1⟩ := DataW.trod_int h1 k1
        obtain ⟨z2, e2, _, w2⟩ := DataW.trod_int h2 k2
        simp only [List.cons.injEq, and_true] at e0 e1 e2
        subst e0 e1 e2
        obtain ⟨p3, n3, d3, rfl⟩ := slice_form' h3 k3
        obtain ⟨ys, hys, hb⟩ := Bin.opened (enc := enc) (W := W) (a0 := p3) (len := n3) (cap := d3) (d0 := y3.1) (p := y3.2) h3 hq cq ⟨k, by simpa [Value.cells] using k3⟩
        have q0 := hcell 0 (by omega)
        have q1 := hcell 1 (by omega)
        have q2 := hcell 2 (by omega)
        have q3 := hcell 3 (by omega)
        rw [Go.Deep.add_add] at q0 q1 q2 q3
        refine ⟨⟨z0, z1, z2, p3, d3, ys⟩, by simpa using q0, by simpa using q1, by simpa using q2, ?_, hb, ?_, ?_, ?_⟩
        · rw [hys]
          simpa using q3
        · have : 0 ≤ z0 ∧ z0 ≤ 255 := by simpa [Lit.wf, IntKind.min, IntKind.max, IntKind.bits, IntKind.signed] using w0
          exact this.1
        · simpa [Lit.wf, IntKind.min, IntKind.max, IntKind.bits, IntKind.signed] using w1
        · simpa [Lit.wf, IntKind.min, IntKind.max, IntKind.bits, IntKind.signed] using w2
    obtain ⟨f, hfq⟩ := Go.Deep.choose_lt each
    refine ⟨(List.range len).map f, by simp, ⟨by simpa using hl, by simpa [maxLen] using hm', fun h => ?_, fun x hx => ?_, fun x hx => ?_⟩⟩
    · simp at h
      obtain ⟨b, o, s⟩ := a
      obtain rfl : s = none := by simpa [Addr.add] using World.cell?_spot (hfq 0 (by omega)).1
      refine ⟨b, o, rfl, fun i e hi => ?_⟩
      have hil := (List.getElem?_eq_some_iff.1 hi).1
      simp at hil
      have he : e = f i := by simpa [hil] using hi.symm
      subst he
      have := hfq i (by omega)
      rw [Go.WideShapes.add_plain, Go.WideShapes.add_plain, Go.WideShapes.add_plain, Go.WideShapes.add_plain] at this
      exact ⟨this.1, by rw [Nat.add_assoc]; exact this.2.1, by rw [Nat.add_assoc]; exact this.2.2.1, by rw [Nat.add_assoc]; exact this.2.2.2.1⟩
    · obtain ⟨i, hi, rfl⟩ := List.mem_map.1 hx
      exact (hfq i (by have := List.mem_range.1 hi; omega)).2.2.2.2.1
    · obtain ⟨i, hi, rfl⟩ := List.mem_map.1 hx
      exact (hfq i (by have := List.mem_range.1 hi; omega)).2.2.2.2.2
end
end Go.Proofs.Ytmfahmbebpojpaa
