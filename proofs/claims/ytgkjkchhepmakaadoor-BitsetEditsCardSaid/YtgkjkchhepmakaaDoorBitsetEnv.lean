/-
  What the listed variables of the library give the walks of layer 4 (bitset).
-/
import Derived.Test.YtgkjkchhepmakaaDoorBitsetAwake
import Derived.ProofKit
import Derived.LaidMore
import Derived.OpenShut
import Derived.ChangeOld
import Derived.Lib.LaidTab
import Derived.Stop.LaidErr
import Derived.ShutString
import Derived.Stop.Joined
namespace Go.Proofs.YtgkjkchhepmakaaDoor
open Go.ChangeShapes Go.WideShapes Go.ChangeAt Go.RowKit

theorem own : ownKnob Tryd.prog.godebug = none := by kernel_rfl
theorem laidOut : laidOutB Tryd.prog = true := by kernel_rfl
theorem bounds_u8 {x : Int} (h : (Lit.int .u8 x).wf = true) : 0 ≤ x ∧ x ≤ 255 := by
  simpa [Lit.wf, IntKind.min, IntKind.max, IntKind.bits, IntKind.signed] using h
theorem bounds_i64 {x : Int} (h : (Lit.int .i64 x).wf = true) : -9223372036854775808 ≤ x ∧ x ≤ 9223372036854775807 := by
  simpa [Lit.wf, IntKind.min, IntKind.max, IntKind.bits, IntKind.signed] using h
def tab64 : List Int := Lib.deBruijn64tab.map fun n : Nat => (n : Int)
theorem env_of_laid {W : World} (h : laidMetH Tryd.prog Rows.bitsetOfRow.laid W) : Env W := by
  have hL : laidMet Tryd.prog Rows.bitsetOfRow.laid W := by
    rw [MakeChecks.laidMetH_plain _ _ _ (by kernel_rfl)] at h
    exact h
  have h2 := hL.tail
  have h3 := h2.tail
  have ht := Lib.tabIs_of_head (k := .u8) (zs := tab64) (n := 64) (t := 66) (e := 5) (show Tryd.prog.globalNamed "math/bits.deBruijn64tab" = some 0 by kernel_rfl) (by kernel_rfl) Tryd.underlying66 Tryd.underlying5 (by kernel_rfl) (by kernel_rfl) h2
  refine ⟨fun j hj => ?_, Lib.tabIs_of_head (n := 20) (t := 82) (e := 56) (show Tryd.prog.globalNamed "internal/strconv.uint64pow10" = some 1 by kernel_rfl) (by kernel_rfl) Tryd.underlying82 Tryd.underlying56 (by kernel_rfl) (by kernel_rfl) h3⟩
  have hj' : j < tab64.length := by unfold tab64; rw [List.length_map]; exact hj
  have := ht.cell (show Tryd.prog.globalNamed "math/bits.deBruijn64tab" = some 0 by kernel_rfl) j hj'
  rw [this]
  unfold tab64
  rw [List.getD_eq_getElem?_getD, List.getElem?_map, List.getElem?_eq_getElem hj]
  simp [List.getD, hj]

/-- The heap that the program's own initialisers leave meets the condition. -/
theorem door_met (os : Os) (args : Array Value) : laidMetH Tryd.prog Rows.bitsetOfRow.laid ((World.doorLaid Tryd.prog 24 os).forCall (fun _ _ => 0) ⟨#[], args, []⟩).memory :=
  laidMetH_of_parts3 (fuel := 8) (laidMet_of_run' 8 (by kernel_rfl) (by kernel_rfl)) (by kernel_rfl) (by kernel_rfl)
end Go.Proofs.YtgkjkchhepmakaaDoor
