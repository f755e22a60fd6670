/-
  LAYER 8 (capacitor): the statements' example.
-/
import Derived.Test.YtjepjcdobgdacaaCapRef
namespace Go.Proofs.Ytjepjcdobgdacaa
open Go Go.RowKit Go.IntWalk
set_option linter.unusedSimpArgs false
set_option maxRecDepth 8000

theorem newb (k b : Nat) (h : k ≤ b) : ∀ j, j = b → k ≤ j := fun _ hj => hj ▸ h
theorem harvest_ex (b : Nat) (e : TypeId) (w : World) (h : CapB b ⟨100, 50, 10, 0, false⟩ [] e w) :
    Calls Try.prog 15 #[.pointer (some ⟨b, 0, none⟩), .int .i64 7, .int .i64 8] w fun e' w' => e' = .returned (.int .i64 0) ∧ CapB b ⟨100, 50, 10, 56, true⟩ [] e w' ∧ Chg w w' (fun k => k = b) :=
  harvest_any b _ [] e 7 8 w h (inv0 (c := 100) (o := 50) (f := 10) rfl)
theorem inv56 : Inv ⟨100, 50, 10, 56, true⟩ := (inv0 (c := 100) (o := 50) (f := 10) rfl).hv 7 8
theorem draw_ex45 (b : Nat) (e : TypeId) (w : World) (h : CapB b ⟨100, 50, 10, 56, true⟩ [] e w) :
    Calls Try.prog 13 #[.pointer (some ⟨b, 0, none⟩), .int .i64 45] w fun e' w' => e' = .returned (.bool true) ∧ CapB b ⟨100, 50, 10, 11, true⟩ [] e w' ∧ Chg w w' (fun k => k = b) :=
  draw_any b _ [] e 45 w h inv56 (by omega)
theorem draw_ex1 (b : Nat) (e : TypeId) (w : World) (h : CapB b ⟨100, 50, 10, 11, true⟩ [] e w) :
    Calls Try.prog 13 #[.pointer (some ⟨b, 0, none⟩), .int .i64 1] w fun e' w' => e' = .returned (.bool false) ∧ CapB b ⟨100, 50, 10, 10, false⟩ [] e w' ∧ Chg w w' (fun k => k = b) :=
  draw_any b _ [] e 1 w h (inv56.dw 45) (by omega)
theorem guar_ex (w : World) : Calls Try.prog 25 #[cfv 100 50 10] w fun e w' => e = .returned (.int .i64 39) ∧ Grew w w' := guar_any 100 50 10 w (by omega)
theorem awake_any (w : World) : Calls Try.prog 9 #[] w fun e w' => e = .returned (.bool true) ∧ Grew w w' := by
  go_enter Try.func9, Try.ntmps9
  go_wp2_with (first
    | (go_at_call 10; (with_reducible refine (new_ok 100 50 10 _ rfl).mono ?_); rintro e w1 ⟨b, rfl, h1, hg, hb⟩; have h1 : CapB b ⟨100, 50, 10, 0, false⟩ [] 70 w1 := h1; have HS := Lib.hid h1; have HB := Lib.hid hg; have HN := Lib.hid (newb _ _ hb); clear h1 hg hb)
    | (go_at_call 20; (with_reducible refine (running_any b _ [] _ _ HS.out).mono ?_); rintro e _ ⟨rfl, rfl⟩)
    | (go_at_call 19; (with_reducible refine (charge_any b _ [] _ _ HS.out).mono ?_); rintro e _ ⟨rfl, rfl⟩)
    | (go_at_call 15; (with_reducible refine (harvest_ex b _ _ HS.out).mono ?_); rintro e w2 ⟨rfl, h2, hc⟩; replace HB := Lib.hid (grew_lift HB.out hc HN.out); replace HS := Lib.hid h2; clear h2 hc)
    | (go_at_call 13; (with_reducible refine (draw_ex45 b _ _ HS.out).mono ?_); rintro e w3 ⟨rfl, h2, hc⟩; replace HB := Lib.hid (grew_lift HB.out hc HN.out); replace HS := Lib.hid h2; clear h2 hc)
    | (go_at_call 13; (with_reducible refine (draw_ex1 b _ _ HS.out).mono ?_); rintro e w4 ⟨rfl, h2, hc⟩; replace HB := Lib.hid (grew_lift HB.out hc HN.out); replace HS := Lib.hid h2; clear h2 hc)
    | (go_at_call 25; (with_reducible refine (guar_ex _).mono ?_); rintro e w5 ⟨rfl, hg⟩; replace HB := Lib.hid (Grew.trans HB.out hg); clear hg))
  go_ret
  exact ⟨rfl, HB.out⟩
end Go.Proofs.Ytjepjcdobgdacaa
