/-
  LAYER 9 (remanence): how the arguments of the statements come in.
-/
import Derived.Test.YteeecehfbmeohaaRmLaws3
namespace Go.Proofs.Yteeecehfbmeohaa
open Go Go.RowKit Go.ChangeShapes Go.WideShapes Go.ChangeAt
set_option linter.unusedSimpArgs false

abbrev In64 (i : Int) : Prop := -9223372036854775808 ≤ i ∧ i ≤ 9223372036854775807
abbrev InU32 (i : Int) : Prop := 0 ≤ i ∧ i ≤ 4294967295
section
variable {H : Type} {enc : TypeId × Value → H} {P : Program} {W : World}
theorem pair_opened {r : Reach} {b0 : Nat} {t : TypeId} {f0 f1 : Field} {v : Value} {d : DataW H} {p : List MemPlace} (hs : P.underlying t = some (.struct #[f0, f1])) (hone : Go.Deep.oneCellFields P #[f0, f1] = true) (hC : P.cellsOf t = 2)
    (h0 : P.underlying f0.type = some (.int .i64)) (h1 : P.underlying f1.type = some (.int .i64)) (hv : Value.okWide P W r b0 t v) (h : DataW.Trod enc P W 0 (fun _ => true) true t v d p) :
    ∃ x y : Int, v = iv x y ∧ In64 x ∧ In64 y := by
  obtain ⟨v0, v1, y0, y1, n, rfl, _, _, k0, k1⟩ := Go.Joins.open_agg2 hs hone hC hv h
  obtain ⟨z0, e0, _, w0⟩ := DataW.trod_int h0 k0
  obtain ⟨z1, e1, _, w1⟩ := DataW.trod_int h1 k1
  simp only [List.cons.injEq, and_true] at e0 e1
  subst e0 e1
  exact ⟨z0, z1, rfl, by simpa [Lit.wf, IntKind.min, IntKind.max, IntKind.bits, IntKind.signed, In64] using w0, by simpa [Lit.wf, IntKind.min, IntKind.max, IntKind.bits, IntKind.signed, In64] using w1⟩
end
theorem rows_act (cs : List Value) (h : Rowed [.int .i64, .int .i64, .int .i64, .int .i64] cs) : ∃ q : Op9, cs = opc q ∧ True := by
  rcases h with _ | ⟨⟨a, rfl, -⟩, h⟩
  rcases h with _ | ⟨⟨b, rfl, -⟩, h⟩
  rcases h with _ | ⟨⟨c, rfl, -⟩, h⟩
  rcases h with _ | ⟨⟨d, rfl, -⟩, h⟩
  cases h
  exact ⟨(a, b, c, d), rfl, trivial⟩
theorem rows_pow (cs : List Value) (h : Rowed [.int .u32, .int .u32] cs) : ∃ q : Int × Int, cs = [.int .u32 q.1, .int .u32 q.2] ∧ (InU32 q.1 ∧ InU32 q.2) := by
  rcases h with _ | ⟨⟨a, rfl, ha⟩, h⟩
  rcases h with _ | ⟨⟨b, rfl, hb⟩, h⟩
  cases h
  exact ⟨(a, b), rfl, by simpa [Lit.wf, IntKind.min, IntKind.max, IntKind.bits, IntKind.signed] using ha, by simpa [Lit.wf, IntKind.min, IntKind.max, IntKind.bits, IntKind.signed] using hb⟩
theorem rows_u32 (cs : List Value) (h : Rowed [.int .u32] cs) : ∃ q : Int, cs = u32c q ∧ InU32 q := by
  rcases h with _ | ⟨⟨a, rfl, ha⟩, h⟩
  cases h
  exact ⟨a, rfl, by simpa [Lit.wf, IntKind.min, IntKind.max, IntKind.bits, IntKind.signed] using ha⟩
end Go.Proofs.Yteeecehfbmeohaa
