/-
  THE STATEMENT DiagFormat OF LAYER 14 (diag), WALKED.
-/
import Derived.Test.YtmnncildkomagaaDoorDiLaws1
import Derived.Test.YtmnncildkomagaaDoorDiSame
namespace Go.Proofs.YtmnncildkomagaaDoor
open Go Go.RowKit Go.IntWalk
open Go.Lib (itoa)
set_option linter.unusedSimpArgs false
set_option linter.unusedVariables false
set_option maxRecDepth 8000

theorem format_law (a0 : ByteArray) (a1 : Option Addr) (len1 cap1 : Nat) (x1 : List It) (W : World) (e1 : x1.length = len1) (w1 : Rw 2 itc W a1 cap1 x1) (f1 : ∀ x ∈ x1, OkI x) (he : Env W) :
    Calls Tryd.prog 8 #[.string a0, .slice a1 len1 cap1] W fun e w' => e = .returned (.bool true) ∧ Grew W w' := by
  have HE := Lib.hid (fun w (h : Grew W w) => examples_any w (he.grew h))
  by_cases hb : 300 < (a0.size : Int)
  · go_enter Tryd.func8, Tryd.ntmps8
    go_wp2_with (go_at_call 11; (with_reducible refine (HE.out _ (Grew.refl _)).mono ?_); rintro e w1 ⟨rfl, g1⟩; have HG1 := Lib.hid g1; clear g1)
    go_ret
    exact ⟨rfl, HG1.out⟩
  · have hs : a0.size ≤ 100000 := by omega
    have HGR := Lib.hid (great_any a1 len1 cap1 x1 W w1 e1 (fun x hx => (f1 x hx).2))
    cases hgr : great x1 with
    | true =>
      rw [hgr] at HGR
      go_enter Tryd.func8, Tryd.ntmps8
      go_wp2_with (first
        | (go_at_call 18; (with_reducible refine (HGR.out).mono ?_); rintro e w1 ⟨rfl, g1⟩; have HG1 := Lib.hid g1; clear g1)
        | (go_at_call 11; (with_reducible refine (HE.out _ HG1.out).mono ?_); rintro e w2 ⟨rfl, g2⟩; have HG2 := Lib.hid (HG1.out.trans g2); clear g2))
      go_ret
      exact ⟨rfl, HG2.out⟩
    | false =>
      rw [hgr] at HGR
      obtain ⟨hl, ht⟩ := not_great hgr
      have HP := Lib.hid (fun w (h : Grew W w) => fmt_any a0 hs a1 len1 cap1 x1 w (w1.kept h) e1 hl ht (he.grew h))
      have HR := Lib.hid (fun w (h : Grew W w) => rfmt_any a0 hs a1 len1 cap1 x1 w (w1.kept h) e1 hl ht)
      generalize fmt a0.data.toList x1 = X at HP HR
      clear he w1 f1 ht
      go_enter Tryd.func8, Tryd.ntmps8
      go_wp2_with (first
        | (go_at_call 18; (with_reducible refine (HGR.out).mono ?_); rintro e w1 ⟨rfl, g1⟩; have HG1 := Lib.hid g1; clear g1)
        | (go_at_call 24; (with_reducible refine (HP.out _ HG1.out).mono ?_); rintro e w2 ⟨rfl, g2⟩; have HG2 := Lib.hid (HG1.out.trans g2); clear g2)
        | (go_at_call 25; (with_reducible refine (HR.out _ HG2.out).mono ?_); rintro e w3 ⟨rfl, g3⟩; have HG3 := Lib.hid (HG2.out.trans g3); clear g3)
        | (go_at_call 11; (with_reducible refine (HE.out _ HG3.out).mono ?_); rintro e w4 ⟨rfl, g4⟩; have HG4 := Lib.hid (HG3.out.trans g4); clear g4))
      go_ret
      exact ⟨rfl, HG4.out⟩
end Go.Proofs.YtmnncildkomagaaDoor
