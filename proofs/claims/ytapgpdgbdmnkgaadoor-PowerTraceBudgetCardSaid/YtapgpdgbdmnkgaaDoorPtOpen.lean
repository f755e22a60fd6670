/-
  LAYER 13 (powertrace): how slices of numbers that came in open.
-/
import Derived.Test.YtapgpdgbdmnkgaaDoorPtEnv
import Derived.Test.YtapgpdgbdmnkgaaDoorPtLaws5
namespace Go.Proofs.YtapgpdgbdmnkgaaDoor
open Go.ChangeShapes Go.WideShapes Go.ChangeAt Go.RowKit

theorem byte_bd {x : Int} (h : (Lit.int .u8 x).wf = true) : 0 ≤ x ∧ x ≤ 255 := by
  simpa [Lit.wf, IntKind.min, IntKind.max, IntKind.bits, IntKind.signed] using h
theorem rows_u8 (cs : List Value) (h : Rowed [.int .u8] cs) : ∃ q : Int, cs = u8c q ∧ (0 ≤ q ∧ q ≤ 255) := by
  cases h with
  | cons h1 t =>
    cases t
    obtain ⟨a, rfl, ha⟩ := h1
    exact ⟨a, rfl, byte_bd ha⟩
/-- A slice of bytes that came in. -/
theorem open_u8s {H : Type} {enc : TypeId × Value → H} {W : World} {t e : TypeId} (ht : Tryd.prog.underlying t = some (.slice e)) (hk : Tryd.prog.cellsOf e = 1) (hks : leafK Tryd.prog 9 e = some [.int .u8]) {a0 : Option Addr} {len cap : Nat} {d0 : DataW H} {p : List MemPlace} (h : DataW.Trod enc Tryd.prog W 0 (fun _ => true) true t (.slice a0 len cap) d0 p) :
    ∃ l : List Int, l.length = len ∧ Rw 1 u8c W a0 cap l ∧ ∀ x ∈ l, 0 ≤ x ∧ x ≤ 255 := by
  have hb := bare_opened ht h
  obtain ⟨l, h1, h2, h3⟩ := RdL.opened 1 u8c (fun q => 0 ≤ q ∧ q ≤ 255) [.int .u8] ht hk hks rfl rows_u8 h (by decide)
  exact ⟨l, h1, ⟨h2, hb⟩, h3⟩
abbrev i64c (z : Int) : List Value := [.int .i64 z]
theorem rows_i64 (cs : List Value) (h : Rowed [.int .i64] cs) : ∃ q : Int, cs = i64c q ∧ (-9223372036854775808 ≤ q ∧ q ≤ 9223372036854775807) := by
  cases h with
  | cons h1 t =>
    cases t
    obtain ⟨a, rfl, ha⟩ := h1
    exact ⟨a, rfl, bounds_i64 ha⟩
/-- A slice of ints that came in. -/
theorem open_i64s {H : Type} {enc : TypeId × Value → H} {W : World} {t e : TypeId} (ht : Tryd.prog.underlying t = some (.slice e)) (hk : Tryd.prog.cellsOf e = 1) (hks : leafK Tryd.prog 9 e = some [.int .i64]) {a0 : Option Addr} {len cap : Nat} {d0 : DataW H} {p : List MemPlace} (h : DataW.Trod enc Tryd.prog W 0 (fun _ => true) true t (.slice a0 len cap) d0 p) :
    ∃ l : List Int, l.length = len ∧ Rw 1 i64c W a0 cap l ∧ ∀ x ∈ l, -9223372036854775808 ≤ x ∧ x ≤ 9223372036854775807 := by
  have hb := bare_opened ht h
  obtain ⟨l, h1, h2, h3⟩ := RdL.opened 1 i64c (fun q => -9223372036854775808 ≤ q ∧ q ≤ 9223372036854775807) [.int .i64] ht hk hks rfl rows_i64 h (by decide)
  exact ⟨l, h1, ⟨h2, hb⟩, h3⟩
end Go.Proofs.YtapgpdgbdmnkgaaDoor
