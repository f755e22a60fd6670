/-
  CONTRACTS OF LAYER 13 (powertrace): the statements Format, Parse, Count.
-/
import Derived.Test.YtapgpdgbdmnkgaaDoorPtEx
import Derived.Test.YtapgpdgbdmnkgaaDoorPtText
import Derived.Test.YtapgpdgbdmnkgaaDoorPtRText
import Derived.Test.YtapgpdgbdmnkgaaDoorPtRParse
import Derived.Test.YtapgpdgbdmnkgaaDoorPtCount
import Derived.RangeFuncCalls
import Derived.RangeFuncBound
import Derived.Shelf.Abstract
import Derived.Shelf.AbstractIn
import Derived.OwnWalkIn
import Derived.TacticsInMore
import Derived.LoopIn
namespace Go.Proofs.YtapgpdgbdmnkgaaDoor
open Go Go.RowKit Go.IntWalk Go.Shelf
open Go.Lib (itoa)
set_option linter.unusedSimpArgs false
set_option linter.unusedVariables false
set_option maxRecDepth 8000

theorem Rw.grew {α : Type} {k : Nat} {enc : α → List Value} {w w' : World} {p : Option Addr} {c : Nat} {xs : List α} (h : Rw k enc w p c xs) (hg : Grew w w') : Rw k enc w' p c xs := h.kept hg
theorem copied_rd (p : Option Addr) (n c : Nat) (xs : List It) (w : World) (h : Rw 2 itc w p c xs) (hn : xs.length = n) (hl : n ≤ 100000) :
    Calls Tryd.prog 13 #[.slice p n c] w fun e w' => ∃ p' c', e = .returned (.slice p' n c') ∧ Rw 2 itc w' p' c' xs ∧ Grew w w' :=
  (copied_any p n c xs w h hn hl).mono fun _ _ ⟨p', c', h1, h2, h3⟩ => ⟨p', c', h1, (OwR.rd encI h2).2, h3⟩
theorem valid_is (p : Option Addr) (n c : Nat) (xs : List It) (b : Bool) (hb : okL xs = b) (w : World) (h : Rw 2 itc w p c xs) (hn : xs.length = n) : Calls Tryd.prog 14 #[.slice p n c] w fun e w' => e = .returned (.bool b) ∧ Grew w w' := hb ▸ valid_any p n c xs w h hn
theorem rvalid_is (p : Option Addr) (n c : Nat) (xs : List It) (b : Bool) (hb : okL xs = b) (w : World) (h : Rw 2 itc w p c xs) (hn : xs.length = n) : Calls Tryd.prog 15 #[.slice p n c] w fun e w' => e = .returned (.bool b) ∧ Grew w w' := hb ▸ rvalid_any p n c xs w h hn
theorem same_self (p : Option Addr) (n c : Nat) (q : Option Addr) (m d : Nat) (xs : List It) (w : World) (h : Rw 2 itc w p c xs) (hn : xs.length = n) (h' : Rw 2 itc w q d xs) (hm : xs.length = m) :
    Calls Tryd.prog 18 #[.slice p n c, .slice q m d] w fun e w' => e = .returned (.bool true) ∧ Grew w w' := by
  have := same_any p n c xs q m d xs w h hn h' hm
  rwa [decide_eq_true rfl] at this
theorem fmtL_yes {xs : List It} (h : okL xs = true) : fmtL xs = textT xs := by unfold fmtL; rw [if_pos h]
theorem fmtL_no {xs : List It} (h : okL xs = false) : fmtL xs = [] := by unfold fmtL; rw [if_neg (by simp [h])]
theorem textT_long (xs : List It) : xs.length ≤ (textT xs).length + 1 := by
  have key : ∀ ys : List It, ys.length ≤ (sepT ys).length := fun ys => by
    induction ys with
    | nil => simp [sepT]
    | cons y r ih =>
      have e : sepT (y :: r) = 32 :: wordT y ++ sepT r := by simp [sepT]
      rw [e]
      simp only [List.length_append, List.length_cons]
      omega
  have := key xs
  simp only [textT, List.length_drop]
  omega
theorem parse_rd (l : List UInt8) (hl : l.length ≤ 50000) (w : World) (he : Env w) : Calls Tryd.prog 17 #[.string ⟨l.toArray⟩] w fun e w' => ∃ p n c k er, e = .returned (.tuple #[.slice p n c, .int .i64 k, .int .i64 er]) ∧ Grew w w' :=
  (parse_any l hl w he).mono fun e w' ⟨xs, k, er, p, c, h1, h2, h3, h4⟩ => ⟨p, _, c, _, _, h2, h4⟩
theorem parse_back (xs : List It) (hq : okL xs = true) (hl : xs.length ≤ 60) (w : World) (he : Env w) : Calls Tryd.prog 17 #[.string ⟨(fmtL xs).toArray⟩] w fun e w' => ∃ p c, e = .returned (.tuple #[.slice p xs.length c, .int .i64 0, .int .i64 0]) ∧ Rw 2 itc w' p c xs ∧ Grew w w' := by
  have hle := textT_take hq xs.length
  rw [List.take_length] at hle
  rw [fmtL_yes hq]
  exact (parse_any (textT xs) (by omega) w he).mono fun e w' ⟨ys, k, er, p, c, h1, h2, h3, h4⟩ => by
    rw [parse_text hq] at h1
    simp only [Prod.mk.injEq] at h1
    obtain ⟨rfl, rfl, rfl⟩ := h1
    exact ⟨p, c, h2, (h3.rd encI).2, h4⟩
theorem parse_is (s : ByteArray) (xs : List It) (k er : Nat) (hp : parseT s.data.toList = (xs, k, er)) (hs : s.size ≤ 600) (w : World) (he : Env w) : Calls Tryd.prog 17 #[.string s] w fun e w' => ∃ p c, e = .returned (.tuple #[.slice p xs.length c, .int .i64 (k : Int), .int .i64 (er : Int)]) ∧ Rw 2 itc w' p c xs ∧ Grew w w' := by
  obtain ⟨⟨l⟩⟩ := s
  have hs' : l.length ≤ 600 := hs
  exact (parse_any l (by omega) w he).mono fun e w' ⟨ys, k', er', p, c, h1, h2, h3, h4⟩ => by
    have h5 := h1.symm.trans hp
    simp only [Prod.mk.injEq] at h5
    obtain ⟨rfl, rfl, rfl⟩ := h5
    exact ⟨p, c, h2, (h3.rd encI).2, h4⟩
theorem rparse_is (s : ByteArray) (xs : List It) (k er : Nat) (hp : parseT s.data.toList = (xs, k, er)) (hs : s.size ≤ 600) (w : World) : Calls Tryd.prog 19 #[.string s] w fun e w' => ∃ p c, e = .returned (.tuple #[.slice p xs.length c, .int .i64 (k : Int), .int .i64 (er : Int)]) ∧ Rw 2 itc w' p c xs ∧ Grew w w' :=
  (rparse_any s (by omega) w).mono fun e w' ⟨ys, k', er', p, c, h1, h2, h3, h4⟩ => by
    have h5 := h1.symm.trans hp
    simp only [Prod.mk.injEq] at h5
    obtain ⟨rfl, rfl, rfl⟩ := h5
    exact ⟨p, c, h2, (h3.rd encI).2, h4⟩
theorem format_is (s : ByteArray) (p : Option Addr) (n c : Nat) (xs : List It) (hq : (okL xs = true ∧ textT xs = s.data.toList) ∧ s.size ≤ 600) (w : World) (h : Rw 2 itc w p c xs) (hn : xs.length = n) (he : Env w) : Calls Tryd.prog 12 #[.slice p n c] w fun e w' => e = .returned (.string s) ∧ Grew w w' := by
  obtain ⟨⟨h1, h2⟩, h3⟩ := hq
  obtain ⟨⟨l⟩⟩ := s
  have h4 : textT xs = l := h2
  have h5 : l.length ≤ 600 := h3
  have h6 := textT_long xs
  rw [h4] at h6
  have := format_any p n c xs w h hn (by omega) he
  rwa [fmtL_yes h1, h4] at this
set_option maxHeartbeats 4000000 in
theorem format_law (p : Option Addr) (n c : Nat) (xs : List It) (w : World) (hn : xs.length = n) (hx : Rw 2 itc w p c xs) (he : Env w) :
    Calls Tryd.prog 3 #[.slice p n c] w fun e w' => e = .returned (.bool true) ∧ Grew w w' := by
  subst hn
  have HX := Lib.hid hx
  have HE := Lib.hid he
  clear hx he
  by_cases h60 : xs.length ≤ 60
  · have HLN := Lib.hid h60
    cases hq : okL xs
    · have HQ := Lib.hid hq
      have HNL := Lib.hid (fmtL_no hq)
      clear hq
      have HB := Lib.hid (Grew.refl w)
      have tk0 := Lib.hid trivial
      have tk1 := Lib.hid trivial
      have tk2 := Lib.hid trivial
      have tk3 := Lib.hid trivial
      have tk4 := Lib.hid trivial
      have tk5 := Lib.hid trivial
      have tk6 := Lib.hid trivial
      have tk7 := Lib.hid trivial
      have tk8 := Lib.hid trivial
      go_enter Tryd.func3, Tryd.ntmps3
      go_wp2_with (first
        | (go_at_call 11; clear tk0; (with_reducible refine (examples_any _ HE.out).mono ?_); rintro e w1 ⟨rfl, g1⟩; replace HE := Lib.hid (HE.out.grew g1); replace HX := Lib.hid (HX.out.grew g1); replace HB := Lib.hid (HB.out.trans g1); clear g1)
        | (go_at_call 13; clear tk1; (with_reducible refine (copied_rd _ _ _ xs _ HX.out rfl (by omega)).mono ?_); rintro e w2 ⟨p1, c1, rfl, h1, g1⟩; replace HE := Lib.hid (HE.out.grew g1); replace HX := Lib.hid (HX.out.grew g1); replace HB := Lib.hid (HB.out.trans g1); clear g1; have H1 := Lib.hid h1; clear h1)
        | (go_at_call 12; clear tk2; (with_reducible refine (format_any _ _ _ xs _ H1.out rfl (by omega) HE.out).mono ?_); rintro e w3 ⟨rfl, g1⟩; replace HE := Lib.hid (HE.out.grew g1); replace HX := Lib.hid (HX.out.grew g1); replace H1 := Lib.hid (H1.out.grew g1); replace HB := Lib.hid (HB.out.trans g1); clear g1)
        | (go_at_call 13; clear tk3; (with_reducible refine (copied_rd _ _ _ xs _ HX.out rfl (by omega)).mono ?_); rintro e w4 ⟨p2, c2, rfl, h2, g1⟩; replace HE := Lib.hid (HE.out.grew g1); replace HX := Lib.hid (HX.out.grew g1); replace H1 := Lib.hid (H1.out.grew g1); replace HB := Lib.hid (HB.out.trans g1); clear g1; have H2 := Lib.hid h2; clear h2)
        | (go_at_call 14; clear tk4; (with_reducible refine (valid_is _ _ _ xs false HQ.out _ H2.out rfl).mono ?_); rintro e w5 ⟨rfl, g1⟩; replace HE := Lib.hid (HE.out.grew g1); replace HX := Lib.hid (HX.out.grew g1); replace H1 := Lib.hid (H1.out.grew g1); replace H2 := Lib.hid (H2.out.grew g1); replace HB := Lib.hid (HB.out.trans g1); clear g1)
        | (go_at_call 15; clear tk5; (with_reducible refine (rvalid_is _ _ _ xs false HQ.out _ HX.out rfl).mono ?_); rintro e w6 ⟨rfl, g1⟩; replace HE := Lib.hid (HE.out.grew g1); replace HX := Lib.hid (HX.out.grew g1); replace H1 := Lib.hid (H1.out.grew g1); replace H2 := Lib.hid (H2.out.grew g1); replace HB := Lib.hid (HB.out.trans g1); clear g1)
        | (go_at_call 16; clear tk6; (with_reducible refine (rformat_any _ _ _ xs _ HX.out rfl (by omega)).mono ?_); rintro e w7 ⟨rfl, g1⟩; replace HE := Lib.hid (HE.out.grew g1); replace HX := Lib.hid (HX.out.grew g1); replace H1 := Lib.hid (H1.out.grew g1); replace H2 := Lib.hid (H2.out.grew g1); replace HB := Lib.hid (HB.out.trans g1); clear g1)
        | (go_at_call 17; clear tk7; (with_reducible refine (parse_rd (fmtL xs) (by rw [HNL.out]; decide) _ HE.out).mono ?_); rintro e w8 ⟨p3, n3, c3, k3, e3, rfl, g1⟩; replace HE := Lib.hid (HE.out.grew g1); replace HX := Lib.hid (HX.out.grew g1); replace H1 := Lib.hid (H1.out.grew g1); replace H2 := Lib.hid (H2.out.grew g1); replace HB := Lib.hid (HB.out.trans g1); clear g1)
        | (go_at_call 15; clear tk8; (with_reducible refine (rvalid_is _ _ _ xs false HQ.out _ HX.out rfl).mono ?_); rintro e w9 ⟨rfl, g1⟩; replace HE := Lib.hid (HE.out.grew g1); replace HX := Lib.hid (HX.out.grew g1); replace H1 := Lib.hid (H1.out.grew g1); replace H2 := Lib.hid (H2.out.grew g1); replace HB := Lib.hid (HB.out.trans g1); clear g1))
      go_ret
      exact ⟨rfl, HB.out⟩

    · have HQ := Lib.hid hq
      clear hq
      have HB := Lib.hid (Grew.refl w)
      have tk0 := Lib.hid trivial
      have tk1 := Lib.hid trivial
      have tk2 := Lib.hid trivial
      have tk3 := Lib.hid trivial
      have tk4 := Lib.hid trivial
      have tk5 := Lib.hid trivial
      have tk6 := Lib.hid trivial
      have tk7 := Lib.hid trivial
      have tk8 := Lib.hid trivial
      have tk9 := Lib.hid trivial
      go_enter Tryd.func3, Tryd.ntmps3
      go_wp2_with (first
        | (go_at_call 11; clear tk0; (with_reducible refine (examples_any _ HE.out).mono ?_); rintro e w1 ⟨rfl, g1⟩; replace HE := Lib.hid (HE.out.grew g1); replace HX := Lib.hid (HX.out.grew g1); replace HB := Lib.hid (HB.out.trans g1); clear g1)
        | (go_at_call 13; clear tk1; (with_reducible refine (copied_rd _ _ _ xs _ HX.out rfl (by omega)).mono ?_); rintro e w2 ⟨p1, c1, rfl, h1, g1⟩; replace HE := Lib.hid (HE.out.grew g1); replace HX := Lib.hid (HX.out.grew g1); replace HB := Lib.hid (HB.out.trans g1); clear g1; have H1 := Lib.hid h1; clear h1)
        | (go_at_call 12; clear tk2; (with_reducible refine (format_any _ _ _ xs _ H1.out rfl (by omega) HE.out).mono ?_); rintro e w3 ⟨rfl, g1⟩; replace HE := Lib.hid (HE.out.grew g1); replace HX := Lib.hid (HX.out.grew g1); replace H1 := Lib.hid (H1.out.grew g1); replace HB := Lib.hid (HB.out.trans g1); clear g1)
        | (go_at_call 13; clear tk3; (with_reducible refine (copied_rd _ _ _ xs _ HX.out rfl (by omega)).mono ?_); rintro e w4 ⟨p2, c2, rfl, h2, g1⟩; replace HE := Lib.hid (HE.out.grew g1); replace HX := Lib.hid (HX.out.grew g1); replace H1 := Lib.hid (H1.out.grew g1); replace HB := Lib.hid (HB.out.trans g1); clear g1; have H2 := Lib.hid h2; clear h2)
        | (go_at_call 14; clear tk4; (with_reducible refine (valid_is _ _ _ xs true HQ.out _ H2.out rfl).mono ?_); rintro e w5 ⟨rfl, g1⟩; replace HE := Lib.hid (HE.out.grew g1); replace HX := Lib.hid (HX.out.grew g1); replace H1 := Lib.hid (H1.out.grew g1); replace H2 := Lib.hid (H2.out.grew g1); replace HB := Lib.hid (HB.out.trans g1); clear g1)
        | (go_at_call 15; clear tk5; (with_reducible refine (rvalid_is _ _ _ xs true HQ.out _ HX.out rfl).mono ?_); rintro e w6 ⟨rfl, g1⟩; replace HE := Lib.hid (HE.out.grew g1); replace HX := Lib.hid (HX.out.grew g1); replace H1 := Lib.hid (H1.out.grew g1); replace H2 := Lib.hid (H2.out.grew g1); replace HB := Lib.hid (HB.out.trans g1); clear g1)
        | (go_at_call 16; clear tk6; (with_reducible refine (rformat_any _ _ _ xs _ HX.out rfl (by omega)).mono ?_); rintro e w7 ⟨rfl, g1⟩; replace HE := Lib.hid (HE.out.grew g1); replace HX := Lib.hid (HX.out.grew g1); replace H1 := Lib.hid (H1.out.grew g1); replace H2 := Lib.hid (H2.out.grew g1); replace HB := Lib.hid (HB.out.trans g1); clear g1)
        | (go_at_call 17; clear tk7; (with_reducible refine (parse_back xs HQ.out HLN.out _ HE.out).mono ?_); rintro e w8 ⟨p3, c3, rfl, h3, g1⟩; replace HE := Lib.hid (HE.out.grew g1); replace HX := Lib.hid (HX.out.grew g1); replace H1 := Lib.hid (H1.out.grew g1); replace H2 := Lib.hid (H2.out.grew g1); replace HB := Lib.hid (HB.out.trans g1); clear g1; have H3 := Lib.hid h3; clear h3)
        | (go_at_call 15; clear tk8; (with_reducible refine (rvalid_is _ _ _ xs true HQ.out _ HX.out rfl).mono ?_); rintro e w9 ⟨rfl, g1⟩; replace HE := Lib.hid (HE.out.grew g1); replace HX := Lib.hid (HX.out.grew g1); replace H1 := Lib.hid (H1.out.grew g1); replace H2 := Lib.hid (H2.out.grew g1); replace H3 := Lib.hid (H3.out.grew g1); replace HB := Lib.hid (HB.out.trans g1); clear g1)
        | (go_at_call 18; clear tk9; (with_reducible refine (same_self _ _ _ _ _ _ xs _ H3.out rfl HX.out rfl).mono ?_); rintro e w10 ⟨rfl, g1⟩; replace HE := Lib.hid (HE.out.grew g1); replace HX := Lib.hid (HX.out.grew g1); replace H1 := Lib.hid (H1.out.grew g1); replace H2 := Lib.hid (H2.out.grew g1); replace H3 := Lib.hid (H3.out.grew g1); replace HB := Lib.hid (HB.out.trans g1); clear g1))
      go_ret
      exact ⟨rfl, HB.out⟩

  · have h60' : ¬ (xs.length : Int) ≤ 60 := by omega
    have HB := Lib.hid (Grew.refl w)
    have tk0 := Lib.hid trivial
    have tk1 := Lib.hid trivial
    go_enter Tryd.func3, Tryd.ntmps3
    go_wp2_with (first
      | (go_at_call 11; clear tk0; (with_reducible refine (examples_any _ HE.out).mono ?_); rintro e w1 ⟨rfl, g1⟩; replace HE := Lib.hid (HE.out.grew g1); replace HX := Lib.hid (HX.out.grew g1); replace HB := Lib.hid (HB.out.trans g1); clear g1)
      | (go_at_call 11; clear tk1; (with_reducible refine (examples_any _ HE.out).mono ?_); rintro e w2 ⟨rfl, g1⟩; replace HE := Lib.hid (HE.out.grew g1); replace HX := Lib.hid (HX.out.grew g1); replace HB := Lib.hid (HB.out.trans g1); clear g1))
    go_ret
    exact ⟨rfl, HB.out⟩

set_option maxHeartbeats 4000000 in
theorem parse_law (s : ByteArray) (w : World) (he : Env w) :
    Calls Tryd.prog 4 #[.string s] w fun e w' => e = .returned (.bool true) ∧ Grew w w' := by
  have HE := Lib.hid he
  clear he
  by_cases h6 : s.size ≤ 600
  · obtain ⟨xs, k, er, hp⟩ : ∃ xs k er, parseT s.data.toList = (xs, k, er) := ⟨_, _, _, rfl⟩
    have HS := Lib.hid h6
    have HP := Lib.hid hp
    by_cases he0 : er = 0
    · subst he0
      have HT := Lib.hid (And.intro (text_parse hp) h6)
      clear hp
      have HB := Lib.hid (Grew.refl w)
      have tk0 := Lib.hid trivial
      have tk1 := Lib.hid trivial
      have tk2 := Lib.hid trivial
      have tk3 := Lib.hid trivial
      have tk4 := Lib.hid trivial
      go_enter Tryd.func4, Tryd.ntmps4
      go_wp2_with (first
        | (go_at_call 11; clear tk0; (with_reducible refine (examples_any _ HE.out).mono ?_); rintro e w1 ⟨rfl, g1⟩; replace HE := Lib.hid (HE.out.grew g1); replace HB := Lib.hid (HB.out.trans g1); clear g1)
        | (go_at_call 17; clear tk1; (with_reducible refine (parse_is s xs k 0 HP.out HS.out _ HE.out).mono ?_); rintro e w2 ⟨p1, c1, rfl, h1, g1⟩; replace HE := Lib.hid (HE.out.grew g1); replace HB := Lib.hid (HB.out.trans g1); clear g1; have H1 := Lib.hid h1; clear h1)
        | (go_at_call 19; clear tk2; (with_reducible refine (rparse_is s xs k 0 HP.out HS.out _).mono ?_); rintro e w3 ⟨p2, c2, rfl, h2, g1⟩; replace HE := Lib.hid (HE.out.grew g1); replace H1 := Lib.hid (H1.out.grew g1); replace HB := Lib.hid (HB.out.trans g1); clear g1; have H2 := Lib.hid h2; clear h2)
        | (go_at_call 18; clear tk3; (with_reducible refine (same_self _ _ _ _ _ _ xs _ H1.out rfl H2.out rfl).mono ?_); rintro e w4 ⟨rfl, g1⟩; replace HE := Lib.hid (HE.out.grew g1); replace H1 := Lib.hid (H1.out.grew g1); replace H2 := Lib.hid (H2.out.grew g1); replace HB := Lib.hid (HB.out.trans g1); clear g1)
        | (go_at_call 12; clear tk4; (with_reducible refine (format_is s _ _ _ xs HT.out _ H1.out rfl HE.out).mono ?_); rintro e w5 ⟨rfl, g1⟩; replace HE := Lib.hid (HE.out.grew g1); replace H1 := Lib.hid (H1.out.grew g1); replace H2 := Lib.hid (H2.out.grew g1); replace HB := Lib.hid (HB.out.trans g1); clear g1))
      go_ret
      exact ⟨rfl, HB.out⟩

    · have hne : ¬ (er : Int) = 0 := by omega
      clear hp he0
      have HB := Lib.hid (Grew.refl w)
      have tk0 := Lib.hid trivial
      have tk1 := Lib.hid trivial
      have tk2 := Lib.hid trivial
      have tk3 := Lib.hid trivial
      go_enter Tryd.func4, Tryd.ntmps4
      go_wp2_with (first
        | (go_at_call 11; clear tk0; (with_reducible refine (examples_any _ HE.out).mono ?_); rintro e w1 ⟨rfl, g1⟩; replace HE := Lib.hid (HE.out.grew g1); replace HB := Lib.hid (HB.out.trans g1); clear g1)
        | (go_at_call 17; clear tk1; (with_reducible refine (parse_is s xs k er HP.out HS.out _ HE.out).mono ?_); rintro e w2 ⟨p1, c1, rfl, h1, g1⟩; replace HE := Lib.hid (HE.out.grew g1); replace HB := Lib.hid (HB.out.trans g1); clear g1; have H1 := Lib.hid h1; clear h1)
        | (go_at_call 19; clear tk2; (with_reducible refine (rparse_is s xs k er HP.out HS.out _).mono ?_); rintro e w3 ⟨p2, c2, rfl, h2, g1⟩; replace HE := Lib.hid (HE.out.grew g1); replace H1 := Lib.hid (H1.out.grew g1); replace HB := Lib.hid (HB.out.trans g1); clear g1; have H2 := Lib.hid h2; clear h2)
        | (go_at_call 18; clear tk3; (with_reducible refine (same_self _ _ _ _ _ _ xs _ H1.out rfl H2.out rfl).mono ?_); rintro e w4 ⟨rfl, g1⟩; replace HE := Lib.hid (HE.out.grew g1); replace H1 := Lib.hid (H1.out.grew g1); replace H2 := Lib.hid (H2.out.grew g1); replace HB := Lib.hid (HB.out.trans g1); clear g1))
      go_ret
      exact ⟨rfl, HB.out⟩

  · have h6' : ¬ (s.size : Int) ≤ 600 := by omega
    have HB := Lib.hid (Grew.refl w)
    have tk0 := Lib.hid trivial
    have tk1 := Lib.hid trivial
    go_enter Tryd.func4, Tryd.ntmps4
    go_wp2_with (first
      | (go_at_call 11; clear tk0; (with_reducible refine (examples_any _ HE.out).mono ?_); rintro e w1 ⟨rfl, g1⟩; replace HE := Lib.hid (HE.out.grew g1); replace HB := Lib.hid (HB.out.trans g1); clear g1)
      | (go_at_call 11; clear tk1; (with_reducible refine (examples_any _ HE.out).mono ?_); rintro e w2 ⟨rfl, g1⟩; replace HE := Lib.hid (HE.out.grew g1); replace HB := Lib.hid (HB.out.trans g1); clear g1))
    go_ret
    exact ⟨rfl, HB.out⟩

theorem count_is (f m z : Int) (hz : cnt f m = z) (w : World) (hf : -9223372036854775808 ≤ f ∧ f ≤ 9223372036854775807) (hm : -9223372036854775808 ≤ m ∧ m ≤ 9223372036854775807) : Calls Tryd.prog 31 #[.int .i64 f, .int .i64 m] w fun e w' => e = .returned (.int .i64 z) ∧ Grew w w' := hz ▸ count_any f m hf hm w
theorem rcount_is (f m z : Int) (hz : cnt f m = z) (w : World) (hf : -9223372036854775808 ≤ f ∧ f ≤ 1000) (hm : -9223372036854775808 ≤ m ∧ m ≤ 9223372036854775807) : Calls Tryd.prog 32 #[.int .i64 f, .int .i64 m] w fun e w' => e = .returned (.int .i64 z) ∧ Grew w w' := hz ▸ rcount_any f m hf hm w
/-- The number of schedules, where it is small. -/
theorem firsts_cnt {f m : Int} (hz : cnt f m ≤ 300) : ((min 300 (geo m.toNat (lens f m 1)) : Nat) : Int) = cnt f m := by
  unfold cnt lens at *
  by_cases h : 0 ≤ f ∧ 0 ≤ m ∧ m ≤ 1073741824
  · rw [if_pos h] at hz ⊢
    have ho : okP (m, (1 : Int)) = true := by
      simp only [okP, Bool.and_eq_true, decide_eq_true_eq]
      omega
    rw [if_pos ho, show (f + 1).toNat = f.toNat + 1 by omega]
    generalize geo m.toNat (f.toNat + 1) = g at *
    omega
  · rw [if_neg h]
    by_cases ho : okP (m, (1 : Int)) = true
    · rw [if_pos ho]
      simp only [okP, Bool.and_eq_true, decide_eq_true_eq] at ho
      rw [show (f + 1).toNat = 0 by omega]
      rfl
    · rw [if_neg ho]
      rfl
theorem first_cnt (f m z : Int) (hz : cnt f m = z) (hd : z ≤ 200 ∧ f ≤ 1000) (w : World) : Calls Tryd.prog 29 #[.int .i64 f, .int .i64 m, .int .i64 1, .int .i64 300] w fun e w' => ∃ (n : Nat) (p : Option Addr) (c : Nat), e = .returned (.tuple #[.slice p n c, .bool true]) ∧ (n : Int) = z ∧ Grew w w' :=
  (first_any f m 1 300 hd.2 (by decide) w).mono fun e w' ⟨xs, p, c, h1, h2, h3, h4, h5⟩ => ⟨_, p, c, h1, by rw [h4, firsts_cnt (by omega), hz], h5⟩
set_option maxHeartbeats 4000000 in
theorem count_law (f m : Int) (w : World) (hf : -9223372036854775808 ≤ f ∧ f ≤ 9223372036854775807) (hm : -9223372036854775808 ≤ m ∧ m ≤ 9223372036854775807) (he : Env w) :
    Calls Tryd.prog 8 #[.int .i64 f, .int .i64 m] w fun e w' => e = .returned (.bool true) ∧ Grew w w' := by
  have HE := Lib.hid he
  clear he
  obtain ⟨hf1, hf2⟩ := hf
  obtain ⟨hm1, hm2⟩ := hm
  by_cases h1 : f ≤ 100
  · obtain ⟨z, hz⟩ : ∃ z, cnt f m = z := ⟨_, rfl⟩
    have HZ := Lib.hid hz
    clear hz
    by_cases h2 : z ≤ 200
    · have HD : Hid (z ≤ 200 ∧ f ≤ 1000) := Lib.hid ⟨h2, by omega⟩
      have HB := Lib.hid (Grew.refl w)
      have tk0 := Lib.hid trivial
      have tk1 := Lib.hid trivial
      have tk2 := Lib.hid trivial
      have tk3 := Lib.hid trivial
      go_enter Tryd.func8, Tryd.ntmps8
      go_wp2_with (first
        | (go_at_call 11; clear tk0; (with_reducible refine (examples_any _ HE.out).mono ?_); rintro e w1 ⟨rfl, g1⟩; replace HE := Lib.hid (HE.out.grew g1); replace HB := Lib.hid (HB.out.trans g1); clear g1)
        | (go_at_call 31; clear tk1; (with_reducible refine (count_is _ _ z HZ.out _ (by omega) (by omega)).mono ?_); rintro e w2 ⟨rfl, g1⟩; replace HE := Lib.hid (HE.out.grew g1); replace HB := Lib.hid (HB.out.trans g1); clear g1)
        | (go_at_call 32; clear tk2; (with_reducible refine (rcount_is _ _ z HZ.out _ (by omega) (by omega)).mono ?_); rintro e w3 ⟨rfl, g1⟩; replace HE := Lib.hid (HE.out.grew g1); replace HB := Lib.hid (HB.out.trans g1); clear g1)
        | (go_at_call 29; clear tk3; (with_reducible refine (first_cnt _ _ z HZ.out HD.out _).mono ?_); rintro e w4 ⟨n1, p1, c1, rfl, hn1, g1⟩; replace HE := Lib.hid (HE.out.grew g1); replace HB := Lib.hid (HB.out.trans g1); clear g1; have HN1 := Lib.hid hn1; clear hn1))
      go_ret
      exact ⟨by first | rfl | (have := HN1.out; simp_all), HB.out⟩

    · skip
      have HB := Lib.hid (Grew.refl w)
      have tk0 := Lib.hid trivial
      have tk1 := Lib.hid trivial
      have tk2 := Lib.hid trivial
      go_enter Tryd.func8, Tryd.ntmps8
      go_wp2_with (first
        | (go_at_call 11; clear tk0; (with_reducible refine (examples_any _ HE.out).mono ?_); rintro e w1 ⟨rfl, g1⟩; replace HE := Lib.hid (HE.out.grew g1); replace HB := Lib.hid (HB.out.trans g1); clear g1)
        | (go_at_call 31; clear tk1; (with_reducible refine (count_is _ _ z HZ.out _ (by omega) (by omega)).mono ?_); rintro e w2 ⟨rfl, g1⟩; replace HE := Lib.hid (HE.out.grew g1); replace HB := Lib.hid (HB.out.trans g1); clear g1)
        | (go_at_call 32; clear tk2; (with_reducible refine (rcount_is _ _ z HZ.out _ (by omega) (by omega)).mono ?_); rintro e w3 ⟨rfl, g1⟩; replace HE := Lib.hid (HE.out.grew g1); replace HB := Lib.hid (HB.out.trans g1); clear g1))
      go_ret
      exact ⟨rfl, HB.out⟩

  · skip
    have HB := Lib.hid (Grew.refl w)
    have tk0 := Lib.hid trivial
    have tk1 := Lib.hid trivial
    go_enter Tryd.func8, Tryd.ntmps8
    go_wp2_with (first
      | (go_at_call 11; clear tk0; (with_reducible refine (examples_any _ HE.out).mono ?_); rintro e w1 ⟨rfl, g1⟩; replace HE := Lib.hid (HE.out.grew g1); replace HB := Lib.hid (HB.out.trans g1); clear g1)
      | (go_at_call 11; clear tk1; (with_reducible refine (examples_any _ HE.out).mono ?_); rintro e w2 ⟨rfl, g1⟩; replace HE := Lib.hid (HE.out.grew g1); replace HB := Lib.hid (HB.out.trans g1); clear g1))
    go_ret
    exact ⟨rfl, HB.out⟩

end Go.Proofs.YtapgpdgbdmnkgaaDoor
