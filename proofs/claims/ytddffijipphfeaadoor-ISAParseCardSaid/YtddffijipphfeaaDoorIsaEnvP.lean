/-
  LAYER 11 (isa): what the listed variables give the statements Format and Parse.
-/
import Derived.Test.YtddffijipphfeaaDoorIsaEnv
import Derived.Test.YtddffijipphfeaaDoorIsaParse1
namespace Go.Proofs.YtddffijipphfeaaDoor
open Go.ChangeShapes Go.WideShapes Go.ChangeAt Go.RowKit
theorem rowErr (u : TypeId) (h : Tryd.prog.typeName? 3 u = some "*errors.errorString") : u = 118 :=
  typeName_ptr_named (nm := "errors.errorString") (by rw [star]; kernel_rfl) (by kernel_rfl) (by decide) u (by rw [star]; exact h)
theorem env_of_laidP {W : World} (hs : W.ShapedOpen Tryd.prog) (h : laidMetH Tryd.prog Rows.iSAFormatRow.laid W) : EnvP W := by
  have hL : laidMet Tryd.prog Rows.iSAFormatRow.laid W := by
    rw [MakeChecks.laidMetH_plain _ _ _ (by kernel_rfl)] at h
    exact h
  have h2 := hL.tail.tail
  have h3 := h2.tail
  have h4 := h3.tail
  refine ⟨env_parts h2 h4.tail, ?_, ?_, Tryd.laysM145.s1_3 W hs⟩
  · obtain ⟨a, s, hv, _⟩ := laid_sentinel h4 (show Tryd.prog.globalNamed "strconv.ErrSyntax" = some 4 by kernel_rfl) (show _ = some 78 by kernel_rfl) Tryd.underlying78 rowErr Tryd.underlying118 Tryd.underlying120 rfl rfl Tryd.underlying9 (by kernel_rfl) (by kernel_rfl)
    exact ⟨_, _, hv⟩
  · obtain ⟨a, s, hv, _⟩ := laid_sentinel h3 (show Tryd.prog.globalNamed "strconv.ErrRange" = some 5 by kernel_rfl) (show _ = some 78 by kernel_rfl) Tryd.underlying78 rowErr Tryd.underlying118 Tryd.underlying120 rfl rfl Tryd.underlying9 (by kernel_rfl) (by kernel_rfl)
    exact ⟨_, _, hv⟩
theorem door_metP (os : Os) (args : Array Value) : laidMetH Tryd.prog Rows.iSAFormatRow.laid ((World.doorLaid Tryd.prog 132 os).forCall (fun _ _ => 0) ⟨#[], args, []⟩).memory :=
  laidMetH_of_parts3 (fuel := 8) (laidMet_of_run' 8 (by kernel_rfl) (by kernel_rfl)) (by kernel_rfl) (by kernel_rfl)
theorem env_of_laidP2 {W : World} (hs : W.ShapedOpen Tryd.prog) (h : laidMetH Tryd.prog Rows.iSAParseRow.laid W) : EnvP W := by
  have hL : laidMet Tryd.prog Rows.iSAParseRow.laid W := by
    rw [MakeChecks.laidMetH_plain _ _ _ (by kernel_rfl)] at h
    exact h
  have h2 := hL.tail.tail
  have h3 := h2.tail
  have h4 := h3.tail
  refine ⟨env_parts h2 h4.tail, ?_, ?_, Tryd.laysM145.s1_3 W hs⟩
  · obtain ⟨a, s, hv, _⟩ := laid_sentinel h4 (show Tryd.prog.globalNamed "strconv.ErrSyntax" = some 4 by kernel_rfl) (show _ = some 78 by kernel_rfl) Tryd.underlying78 rowErr Tryd.underlying118 Tryd.underlying120 rfl rfl Tryd.underlying9 (by kernel_rfl) (by kernel_rfl)
    exact ⟨_, _, hv⟩
  · obtain ⟨a, s, hv, _⟩ := laid_sentinel h3 (show Tryd.prog.globalNamed "strconv.ErrRange" = some 5 by kernel_rfl) (show _ = some 78 by kernel_rfl) Tryd.underlying78 rowErr Tryd.underlying118 Tryd.underlying120 rfl rfl Tryd.underlying9 (by kernel_rfl) (by kernel_rfl)
    exact ⟨_, _, hv⟩
theorem door_metP2 (os : Os) (args : Array Value) : laidMetH Tryd.prog Rows.iSAParseRow.laid ((World.doorLaid Tryd.prog 132 os).forCall (fun _ _ => 0) ⟨#[], args, []⟩).memory :=
  laidMetH_of_parts3 (fuel := 8) (laidMet_of_run' 8 (by kernel_rfl) (by kernel_rfl)) (by kernel_rfl) (by kernel_rfl)
end Go.Proofs.YtddffijipphfeaaDoor
