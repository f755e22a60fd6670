/-
  HOW ARGUMENTS THAT ARE STRUCTS OF WHATEVER FIELDS COME IN: field by field (arrays of 16-bit integers, slices, structs inside structs). Nothing of the program stands here.
-/
import Derived.Test.YtbhglpiiabpdjaaDoorRdL
import Derived.Deep.SlicePairs
import Derived.ProofKit
import Derived.LaidMore
import Derived.OpenShut
import Derived.ChangeOld
import Derived.ChangeSame
namespace Go.Proofs.YtbhglpiiabpdjaaDoor
open Go.ChangeShapes Go.WideShapes Go.ChangeAt Go.RowKit
section
variable {H : Type} {enc : TypeId × Value → H} {P : Program} {w : World} {base : Nat} {sp : Nat → Bool} {held : Bool}
/-- A cell list reads as a value of the type t. -/
def Reads (enc : TypeId × Value → H) (P : Program) (w : World) (base : Nat) (sp : Nat → Bool) (held : Bool) (t : TypeId) (cs : List Value) : Prop := ∃ n x, DataW.trod enc P w base sp held n t cs = some x
theorem Reads.of {t : TypeId} {v : Value} {d : DataW H} {p : List MemPlace} (h : DataW.Trod enc P w base sp held t v d p) : Reads enc P w base sp held t v.cells.toList := by
  obtain ⟨n, hf⟩ := h
  exact ⟨n, _, hf⟩
theorem Reads.len {t : TypeId} {fs : Array Field} {cs : List Value} (ht : P.underlying t = some (.struct fs)) (h : Reads enc P w base sp held t cs) : cs.length = P.cellsOf t := by
  obtain ⟨n, x, h⟩ := h
  obtain ⟨_, _, _, _, hl, _⟩ := DataW.trod_struct ht h
  exact hl
/-- Field i. -/
theorem Reads.fld {t : TypeId} {fs : Array Field} {cs : List Value} (ht : P.underlying t = some (.struct fs)) (h : Reads enc P w base sp held t cs) (i o c : Nat) (u : TypeId) (hi : (fs[i]?).map (fun f => (f.offset, f.type)) = some (o, u)) (hc : P.cellsOf u = c) : Reads enc P w base sp held u ((cs.drop o).take c) := by
  obtain ⟨n, x, h⟩ := h
  obtain ⟨xs, m, _, _, _, hxs, hf⟩ := DataW.trod_struct ht h
  cases hq : fs[i]? with
  | none => rw [hq] at hi; cases hi
  | some f =>
    rw [hq] at hi
    simp only [Option.map_some, Option.some.injEq, Prod.mk.injEq] at hi
    obtain ⟨rfl, rfl⟩ := hi
    have h1 := hf i f hq
    have h2 : i < xs.length := by rw [hxs]; exact (Array.getElem?_eq_some_iff.1 hq).1
    rw [List.getElem?_eq_getElem h2, hc] at h1
    exact ⟨_, _, h1⟩
theorem Reads.int {t : TypeId} {k : IntKind} {cs : List Value} (ht : P.underlying t = some (.int k)) (h : Reads enc P w base sp held t cs) : ∃ z, cs = [.int k z] ∧ (Lit.int k z).wf = true := by
  obtain ⟨n, x, h⟩ := h
  obtain ⟨z, e, _, hw⟩ := DataW.trod_int ht h
  exact ⟨z, e, hw⟩
/-- An array of integers. -/
theorem Reads.ints {t e : TypeId} {n : Nat} {k : IntKind} {cs : List Value} (ht : P.underlying t = some (.array n e)) (he : P.underlying e = some (.int k)) (hce : P.cellsOf e = 1) (hct : P.cellsOf t = n) (h : Reads enc P w base sp held t cs) :
    ∃ xs : List Int, cs = xs.map (Value.int k) ∧ xs.length = n ∧ ∀ z ∈ xs, (Lit.int k z).wf = true := by
  obtain ⟨f, x, h⟩ := h
  obtain ⟨ys, m, _, _, hl, hy, hel⟩ := DataW.trod_array ht h
  rw [hct] at hl
  have each : ∀ i (hi : i < cs.length), ∃ z, cs[i] = .int k z ∧ (Lit.int k z).wf = true := fun i hi => by
    have h1 := hel i (by omega)
    rw [hce, Nat.mul_one, List.getElem?_eq_getElem (by omega)] at h1
    obtain ⟨z, e1, _, hw⟩ := DataW.trod_int he h1
    refine ⟨z, ?_, hw⟩
    rw [List.drop_eq_getElem_cons hi] at e1
    exact (List.cons.inj e1).1
  have all : ∀ l : List Value, (∀ v ∈ l, ∃ z, v = .int k z ∧ (Lit.int k z).wf = true) → ∃ xs : List Int, l = xs.map (Value.int k) ∧ ∀ z ∈ xs, (Lit.int k z).wf = true := by
    intro l
    induction l with
    | nil => exact fun _ => ⟨[], rfl, fun z hz => by cases hz⟩
    | cons v l ih =>
      intro hv
      obtain ⟨z, rfl, hz⟩ := hv v List.mem_cons_self
      obtain ⟨xs, rfl, hx⟩ := ih fun u hu => hv u (List.mem_cons_of_mem _ hu)
      exact ⟨z :: xs, rfl, fun u hu => by rcases List.mem_cons.1 hu with rfl | hu; exact hz; exact hx u hu⟩
  obtain ⟨xs, rfl, hx⟩ := all cs fun v hv => by
    obtain ⟨i, hi, rfl⟩ := List.getElem_of_mem hv
    exact each i hi
  exact ⟨xs, rfl, by simpa using hl, hx⟩
end
section
variable {H : Type} {enc : TypeId × Value → H} {P : Program} {W : World}
/-- A slice: where it lies, its length. -/
theorem Reads.slice {t e : TypeId} {cs : List Value} (ht : P.underlying t = some (.slice e)) (h : Reads enc P W 0 (fun _ => true) true t cs) : ∃ (p : Option Addr) (n c : Nat), cs = [.slice p n c] ∧ ∃ d q, DataW.Trod enc P W 0 (fun _ => true) true t (.slice p n c) d q := by
  obtain ⟨f, x, h⟩ := h
  have h2 := h
  rcases Go.Deep.open_slice ht h with ⟨hc, _⟩ | ⟨a, len, cap, _, _, _, _, hc, _⟩
  · exact ⟨none, 0, 0, hc, x.1, x.2, f, by rw [hc] at h2; exact h2⟩
  · exact ⟨_, _, _, hc, x.1, x.2, f, by rw [hc] at h2; exact h2⟩
end
end Go.Proofs.YtbhglpiiabpdjaaDoor
