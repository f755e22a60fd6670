/-
  LAYER 15: the examples that every statement tries first; the program's Keywords and Punctuation.
-/
import Derived.Test.YtcajamgajchheaaDoorLxJoinR
namespace Go.Proofs.YtcajamgajchheaaDoor
open Go Go.RowKit Go.IntWalk
set_option linter.unusedSimpArgs false
set_option linter.unusedVariables false
set_option maxRecDepth 8000
abbrev exS : ByteArray := ⟨#[120, 49, 32, 61, 32, 97, 60, 61, 45, 51, 59, 47, 47, 32, 101, 110, 100]⟩
abbrev exJ : ByteArray := ⟨#[120, 49, 61, 97, 60, 61, 45, 51, 59]⟩
def exR : List Tk := [⟨1, ⟨#[120, 49]⟩, 0, 0⟩, ⟨4, ⟨#[61]⟩, 0, 3⟩, ⟨1, ⟨#[97]⟩, 0, 5⟩, ⟨4, ⟨#[60, 61]⟩, 0, 6⟩, ⟨4, ⟨#[45]⟩, 0, 8⟩, ⟨2, ⟨#[51]⟩, 3, 9⟩, ⟨4, ⟨#[59]⟩, 0, 10⟩, ⟨0, ⟨#[]⟩, 0, 17⟩]
theorem ex_scan : scan exS.data.toList = exR := by kernel_rfl
theorem ex_join : (⟨(jn [] (exR.map txl)).toArray⟩ : ByteArray) = exJ := by kernel_rfl
theorem wake_scan (w : World) (hE : Env w) : Calls Tryd.prog 13 #[.string exS] w fun e w' => ∃ p c, e = .returned (.slice p 8 c) ∧ Rw 4 tkc w' p c exR ∧ Grew w w' := by
  have h := scanP_any exS (by decide) w hE
  rw [ex_scan] at h
  exact h
theorem wake_join (p : Option Addr) (c : Nat) (w : World) (h : Rw 4 tkc w p c exR) (hE : Env w) : Calls Tryd.prog 19 #[.slice p 8 c] w fun e w' => e = .returned (.string exJ) ∧ Grew w w' := by
  have h := joinP_any p c exR w h (by decide) (by decide) hE
  rw [ex_join] at h
  exact h
set_option maxHeartbeats 8000000 in
theorem wakes_any (w : World) (hE : Env w) : Calls Tryd.prog 10 #[] w fun e w' => e = .returned (.bool true) ∧ Grew w w' := by
  have HE := Lib.hid hE
  clear hE
  go_enter Tryd.func10, Tryd.ntmps10
  go_wp2_with (first
    | (go_at_call 13; (with_reducible refine (wake_scan _ HE.out).mono ?_); rintro e w1 ⟨p, c, rfl, hr, g1⟩; have HR := Lib.hid hr; have HG := Lib.hid g1; clear g1; obtain ⟨b, o, rfl, hcd⟩ := hr.rd.cells (by decide); have u0 : w1.cell? ⟨b, o + 1, none⟩ = some (.string ⟨#[120, 49]⟩) := (by simpa using hcd 0 _ rfl 1 _ rfl); have u3 : w1.cell? ⟨b, o + 12 + 1, none⟩ = some (.string ⟨#[60, 61]⟩) := hcd 3 _ rfl 1 _ rfl; have u5 : w1.cell? ⟨b, o + 20 + 2, none⟩ = some (.int .i16 3) := hcd 5 _ rfl 2 _ rfl; have v5 : w1.cell? ⟨b, o + 20 + 3, none⟩ = some (.int .i64 9) := hcd 5 _ rfl 3 _ rfl; have u7 : w1.cell? ⟨b, o + 28, none⟩ = some (.int .i64 0) := hcd 7 _ rfl 0 _ rfl; have v7 : w1.cell? ⟨b, o + 28 + 3, none⟩ = some (.int .i64 17) := hcd 7 _ rfl 3 _ rfl; clear hcd hr)
    | (go_at_call 19; (with_reducible refine (wake_join _ _ _ HR.out (HE.out.grew HG.out)).mono ?_); rintro e w2 ⟨rfl, g2⟩; have HG2 := Lib.hid (HG.out.trans g2); clear g2))
  go_ret
  exact ⟨rfl, HG2.out⟩
end Go.Proofs.YtcajamgajchheaaDoor
