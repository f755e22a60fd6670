/-
  The statements of layer 2 (crc16), walked: each returns true, and nothing that was there before has changed.
-/
import Derived.Test.YthfnadmbakcgcaaCrcWalks2
import Derived.Test.YthfnadmbakcgcaaHeld
namespace Go.Proofs.Ythfnadmbakcgcaa
open Go.RowKit
set_option linter.unusedSimpArgs false


theorem sum_walk (p : Option Addr) (n c : Nat) (xs : List UInt8) (s : BitVec 16) (w : World) (hl : xs.length = n) (h : Bin w p c xs) :
    Calls Try.prog 3 #[.slice p n c, .int .u16 s.toNat] w fun e w' => e = .returned (.bool true) ∧ Below w.heap.size w w' := by
  by_cases hb : 300 < n
  · go_enter Try.func3, Try.ntmps3
    go_wp2_with (go_at_call 10; (with_reducible refine (examples_any _).mono ?_); rintro e w1 ⟨rfl, hb1⟩)
    go_ret
    exact ⟨rfl, hb1⟩
  · go_enter Try.func3, Try.ntmps3
    go_wp2_with (first
      | (go_at_call 10; (with_reducible refine (examples_any _).mono ?_); rintro e w1 ⟨rfl, hb1⟩)
      | (go_at_call 11; (with_reducible refine (sum_any _ _ _ xs _ hl h).mono ?_); rintro e w1 ⟨rfl, rfl⟩)
      | (go_at_call 12; (with_reducible refine (rsum_any _ _ _ xs _ hl h).mono ?_); rintro e w1 ⟨rfl, rfl⟩)
      | (go_at_call 13; (with_reducible refine (update_any s _ _ _ xs _ hl h).mono ?_); rintro e w1 ⟨rfl, rfl⟩)
      | (go_at_call 14; (with_reducible refine (rupdate_any s _ _ _ xs _ hl h).mono ?_); rintro e w1 ⟨rfl, rfl⟩))
    go_ret
    exact ⟨rfl, hb1⟩

theorem concat_walk (p q : Option Addr) (n c m d : Nat) (xs ys : List UInt8) (w : World) (hl : xs.length = n) (hm : ys.length = m) (h : Bin w p c xs) (k : Bin w q d ys) :
    Calls Try.prog 4 #[.slice p n c, .slice q m d] w fun e w' => e = .returned (.bool true) ∧ Below w.heap.size w w' := by
  by_cases hb : 300 < n
  · go_enter Try.func4, Try.ntmps4
    go_wp2_with (go_at_call 10; (with_reducible refine (examples_any _).mono ?_); rintro e w1 ⟨rfl, hb1⟩)
    go_ret
    exact ⟨rfl, hb1⟩
  · by_cases hb2 : 300 < m
    · go_enter Try.func4, Try.ntmps4
      go_wp2_with (go_at_call 10; (with_reducible refine (examples_any _).mono ?_); rintro e w1 ⟨rfl, hb1⟩)
      go_ret
      exact ⟨rfl, hb1⟩
    · have HB := Lib.hid ((Below.refl w.heap.size w).alloc (Nat.le_refl _) (.cells #[] 5))
      have HI := Lib.hid h
      have HK := Lib.hid k
      have HL := Lib.hid hl
      have HM := Lib.hid hm
      have hx : xs.length ≤ 300 := by omega
      have hy : ys.length ≤ 300 := by omega
      clear hl hm
      go_enter Try.func4, Try.ntmps4
      go_wp2_with (first
        | (at_builtin; refine wpList_append_bytes rfl (.tmp 15) _ 22 rfl w.heap.size 5 _ Try.underlying22 info_u8 rfl _ [] rfl (Own.lit w [] 0 _ _ _ rfl rfl (by omega) (Nat.le_refl _)) p _ c xs rfl HL.out (HI.out.kept HB.out) (by simp; omega) HB.out.size ?_; intro p2 c2 us w2 hu ho2 hb2; replace HB := Lib.hid (HB.out.trans hb2); clear hb2)
        | (at_builtin; refine wpList_append_bytes rfl (.tmp 17) _ 22 rfl w.heap.size 5 _ Try.underlying22 info_u8 rfl _ us rfl ho2 q _ d ys rfl HM.out (HK.out.kept HB.out) (by rw [hu.out]; simp; omega) HB.out.size ?_; intro p3 c3 vs w3 hv ho3 hb3; replace HB := Lib.hid (HB.out.trans hb3); clear hb3)
        | (go_at_call 10; (with_reducible refine (examples_any _).mono ?_); rintro e w1 ⟨rfl, hb1⟩; replace HB := Lib.hid (HB.out.trans (hb1.mono HB.out.size)); clear hb1)
        | (go_at_call 11; (with_reducible refine (sum_any p _ c xs _ HL.out (HI.out.kept HB.out)).mono ?_); rintro e w1 ⟨rfl, rfl⟩)
        | (go_at_call 11; (with_reducible refine (sum_any p3 _ c3 vs _ rfl ho3.bin.2).mono ?_); rintro e w1 ⟨rfl, rfl⟩; have HE := (show crc (crc 0xFFFF#16 xs) ys = crc 0xFFFF#16 vs by rw [hv.out, hu.out, List.nil_append, crc_append]))
        | (go_at_call 13; (with_reducible refine (update_any _ q _ d ys _ HM.out (HK.out.kept HB.out)).mono ?_); rintro e w1 ⟨rfl, rfl⟩))
      go_ret
      exact ⟨rfl, HB.out⟩

theorem check_walk (p : Option Addr) (n c : Nat) (xs : List UInt8) (w : World) (hl : xs.length = n) (h : Bin w p c xs) :
    Calls Try.prog 6 #[.slice p n c] w fun e w' => e = .returned (.bool true) ∧ Below w.heap.size w w' := by
  by_cases hb : 300 < n
  · go_enter Try.func6, Try.ntmps6
    go_wp2_with (go_at_call 10; (with_reducible refine (examples_any _).mono ?_); rintro e w1 ⟨rfl, hb1⟩)
    go_ret
    exact ⟨rfl, hb1⟩
  · have HB := Lib.hid (Below.refl w.heap.size w)
    have HI := Lib.hid h
    go_enter Try.func6, Try.ntmps6
    go_wp2_with (first
      | (go_at_call 10; (with_reducible refine (examples_any _).mono ?_); rintro e w1 ⟨rfl, hb1⟩; replace HB := Lib.hid (HB.out.trans (hb1.mono HB.out.size)); clear hb1)
      | (go_at_call 16; (with_reducible refine (check_any _ _ _ xs _ hl (by omega) h).mono ?_); rintro e w1 ⟨p1, c1, rfl, hi1, hb1⟩; replace HB := Lib.hid (HB.out.trans (hb1.mono HB.out.size)); clear hb1)
      | (go_at_call 18; (with_reducible refine (rcheck_any _ _ _ xs _ hl (by omega) (HI.out.kept HB.out)).mono ?_); rintro e w2 ⟨p2, c2, rfl, hi2, hb2⟩; have hc1 := (hi1.kept hb2).convert _ rfl _ _ _ Try.underlying22 Try.underlying5 Try.underlying9; have hc2 := hi2.convert _ rfl _ _ _ Try.underlying22 Try.underlying5 Try.underlying9; replace HB := Lib.hid (HB.out.trans (hb2.mono HB.out.size)); clear hb2))
    go_ret
    exact ⟨rfl, HB.out⟩

set_option maxHeartbeats 4000000 in
theorem append_walk (p : Option Addr) (n c : Nat) (xs : List UInt8) (w : World) (hl : xs.length = n) (h : Bin w p c xs) :
    Calls Try.prog 5 #[.slice p n c] w fun e w' => e = .returned (.bool true) ∧ Below w.heap.size w w' := by
  by_cases hb : 300 < n
  · go_enter Try.func5, Try.ntmps5
    go_wp2_with (go_at_call 10; (with_reducible refine (examples_any _).mono ?_); rintro e w1 ⟨rfl, hb1⟩)
    go_ret
    exact ⟨rfl, hb1⟩
  · have hx : xs.length ≤ 300 := by omega
    have HI := Lib.hid h
    have HL := Lib.hid hl
    clear hl
    go_enter Try.func5, Try.ntmps5
    go_wp2_with (first
      | (go_at_call 15; (with_reducible refine (append_any _ _ _ xs _ HL.out (by omega) h).mono ?_); rintro e w1 ⟨p1, c1, rfl, hi1, hb1⟩)
      | (go_at_call 16; (with_reducible refine (check_app p1 c1 xs _ hx hi1).mono ?_); rintro e w2 ⟨p2, c2, rfl, hi2, hb2⟩))
    have hbw := Lib.hid (hb1.trans (hb2.mono hb1.size))
    have I1 := Lib.hid (hi1.kept hb2).drew
    have I2 := Lib.hid hi2.drew
    have I0 := Lib.hid (HI.out.kept hbw.out).drew
    clear hb1 hb2 hi1 hi2 h
    obtain ⟨W2, hW2⟩ : ∃ W2, W2 = w2.drew := ⟨_, rfl⟩
    rw [← hW2] at I0 I1 I2
    have S0 : ∀ W, Below W2.heap.size W2 W → (fun W => (convert 22 9 (.slice p n c)).run Try.prog W = .ok (.string ⟨xs.toArray⟩) W ∧ (convert 22 9 (.slice p1 (app xs).length c1)).run Try.prog W = .ok (.string ⟨(app xs).toArray⟩) W ∧ (convert 22 9 (.slice p2 xs.length c2)).run Try.prog W = .ok (.string ⟨xs.toArray⟩) W ∧ Below W2.heap.size W2 W) W := fun W hb => ⟨(I0.out.kept hb).convert _ HL.out _ _ _ Try.underlying22 Try.underlying5 Try.underlying9, (I1.out.kept hb).convert _ rfl _ _ _ Try.underlying22 Try.underlying5 Try.underlying9, (I2.out.kept hb).convert _ rfl _ _ _ Try.underlying22 Try.underlying5 Try.underlying9, hb⟩
    have hS := S0 w2.drew (hW2 ▸ Below.refl _ _)
    refine wp_region_held_drew (S := (fun W => (convert 22 9 (.slice p n c)).run Try.prog W = .ok (.string ⟨xs.toArray⟩) W ∧ (convert 22 9 (.slice p1 (app xs).length c1)).run Try.prog W = .ok (.string ⟨(app xs).toArray⟩) W ∧ (convert 22 9 (.slice p2 xs.length c2)).run Try.prog W = .ok (.string ⟨xs.toArray⟩) W ∧ Below W2.heap.size W2 W)) (by kernel_rfl) hS (fun hHeld => ?_)
    refine wpAnyH_take (i := 0) (v := ?_) rfl (by kernel_rfl) (by kernel_rfl) (by kernel_rfl) (fun _ _ _ h => h) (Or.inl ⟨by rfl, ?_⟩) hHeld ?_
    rotate_left
    · (intro W hSw; (try dsimp only at hSw); go_simp; (try with_reducible rfl))
    try simp only [List.getElem_toArray, List.getElem_cons_zero, List.getElem_cons_succ, Act.put, List.setIfInBounds_toArray, List.set_cons_zero, List.set_cons_succ]
    refine wpAnyH_take (i := 2) (v := ?_) rfl (by kernel_rfl) (by kernel_rfl) (by kernel_rfl) (fun _ _ _ h => h) (Or.inl ⟨by rfl, ?_⟩) hHeld ?_
    rotate_left
    · (intro W hSw; (try dsimp only at hSw); go_simp; (try with_reducible rfl))
    try simp only [List.getElem_toArray, List.getElem_cons_zero, List.getElem_cons_succ, Act.put, List.setIfInBounds_toArray, List.set_cons_zero, List.set_cons_succ]
    refine wpAnyH_take (i := 1) (v := ?_) rfl (by kernel_rfl) (by kernel_rfl) (by kernel_rfl) (fun _ _ _ h => h) (Or.inl ⟨by rfl, ?_⟩) hHeld ?_
    rotate_left
    · (intro W hSw; (try dsimp only at hSw); go_simp; (try with_reducible rfl))
    try simp only [List.getElem_toArray, List.getElem_cons_zero, List.getElem_cons_succ, Act.put, List.setIfInBounds_toArray, List.set_cons_zero, List.set_cons_succ]
    refine wpAnyH_ready (rs := [3]) (by kernel_rfl) (by simp) (AllReadyH.cons rfl (fun K hK => ?_) AllReadyH.nil)
    (go_simp; go_at_call 17; (with_reducible refine (rappend_any _ _ _ xs _ HL.out (by omega) (hW2 ▸ I0.out)).mono ?_); rintro e w3 ⟨p3, c3, rfl, hi3, hb3⟩)
    refine hK.out _ _ (S0 _ (hW2 ▸ hb3)) (fun hHeld => ?_)
    clear hK K
    try simp only [List.getElem_toArray, List.getElem_cons_zero, List.getElem_cons_succ, Act.put, List.setIfInBounds_toArray, List.set_cons_zero, List.set_cons_succ]
    have hb3' : Below W2.heap.size W2 w3 := hW2 ▸ hb3
    have I3 := Lib.hid (I1.out.kept hb3')
    have S1 : ∀ W, Below w3.heap.size w3 W → (fun W => (convert 22 9 (.slice p3 (app xs).length c3)).run Try.prog W = .ok (.string ⟨(app xs).toArray⟩) W ∧ (convert 22 9 (.slice p n c)).run Try.prog W = .ok (.string ⟨xs.toArray⟩) W ∧ (convert 22 9 (.slice p1 (app xs).length c1)).run Try.prog W = .ok (.string ⟨(app xs).toArray⟩) W ∧ (convert 22 9 (.slice p2 xs.length c2)).run Try.prog W = .ok (.string ⟨xs.toArray⟩) W ∧ Below w3.heap.size w3 W) W := fun W hb => ⟨(hi3.kept hb).convert _ rfl _ _ _ Try.underlying22 Try.underlying5 Try.underlying9, S0 W (hb3'.trans (hb.mono hb3'.size)) |>.1, S0 W (hb3'.trans (hb.mono hb3'.size)) |>.2.1, S0 W (hb3'.trans (hb.mono hb3'.size)) |>.2.2.1, hb⟩
    refine wpAnyH_narrow (S' := fun W => (convert 22 9 (.slice p3 (app xs).length c3)).run Try.prog W = .ok (.string ⟨(app xs).toArray⟩) W ∧ (convert 22 9 (.slice p n c)).run Try.prog W = .ok (.string ⟨xs.toArray⟩) W ∧ (convert 22 9 (.slice p1 (app xs).length c1)).run Try.prog W = .ok (.string ⟨(app xs).toArray⟩) W ∧ (convert 22 9 (.slice p2 xs.length c2)).run Try.prog W = .ok (.string ⟨xs.toArray⟩) W ∧ Below w3.heap.size w3 W) (fun W h => S0 W (hb3'.trans (h.2.2.2.2.mono hb3'.size))) _ _ _ _ ?_
    replace hHeld : (fun W => (convert 22 9 (.slice p3 (app xs).length c3)).run Try.prog W = .ok (.string ⟨(app xs).toArray⟩) W ∧ (convert 22 9 (.slice p n c)).run Try.prog W = .ok (.string ⟨xs.toArray⟩) W ∧ (convert 22 9 (.slice p1 (app xs).length c1)).run Try.prog W = .ok (.string ⟨(app xs).toArray⟩) W ∧ (convert 22 9 (.slice p2 xs.length c2)).run Try.prog W = .ok (.string ⟨xs.toArray⟩) W ∧ Below w3.heap.size w3 W) _ := S1 w3 (Below.refl _ _)
    refine wpAnyH_take (i := 4) (v := ?_) rfl (by kernel_rfl) (by kernel_rfl) (by kernel_rfl) (fun _ _ _ h => h) (Or.inl ⟨by rfl, ?_⟩) hHeld ?_
    rotate_left
    · (intro W hSw; (try dsimp only at hSw); go_simp; (try with_reducible rfl))
    try simp only [List.getElem_toArray, List.getElem_cons_zero, List.getElem_cons_succ, Act.put, List.setIfInBounds_toArray, List.set_cons_zero, List.set_cons_succ]
    refine wpAnyH_take (i := 5) (v := ?_) rfl (by kernel_rfl) (by kernel_rfl) (by kernel_rfl) (fun _ _ _ h => h) (Or.inl ⟨by rfl, ?_⟩) hHeld ?_
    rotate_left
    · (intro W hSw; (try dsimp only at hSw); go_simp; (try with_reducible rfl))
    try simp only [List.getElem_toArray, List.getElem_cons_zero, List.getElem_cons_succ, Act.put, List.setIfInBounds_toArray, List.set_cons_zero, List.set_cons_succ]
    refine wpAnyH_take (i := 6) (v := ?_) rfl (by kernel_rfl) (by kernel_rfl) (by kernel_rfl) (fun _ _ _ h => h) (Or.inl ⟨by rfl, ?_⟩) hHeld ?_
    rotate_left
    · (intro W hSw; (try dsimp only at hSw); go_simp; (try with_reducible rfl))
    try simp only [List.getElem_toArray, List.getElem_cons_zero, List.getElem_cons_succ, Act.put, List.setIfInBounds_toArray, List.set_cons_zero, List.set_cons_succ]
    refine wpAnyH_take (i := 7) (v := ?_) rfl (by kernel_rfl) (by kernel_rfl) (by kernel_rfl) (fun _ _ _ h => h) (Or.inl ⟨by rfl, ?_⟩) hHeld ?_
    rotate_left
    · (intro W hSw; (try dsimp only at hSw); go_simp; (try with_reducible rfl))
    try simp only [List.getElem_toArray, List.getElem_cons_zero, List.getElem_cons_succ, Act.put, List.setIfInBounds_toArray, List.set_cons_zero, List.set_cons_succ]
    refine wpAnyH_ready (rs := [8]) (by kernel_rfl) (by simp) (AllReadyH.cons rfl (fun K hK => ?_) AllReadyH.nil)
    (go_simp; go_at_call 11; (with_reducible refine (sum_app _ _ xs _ I3.out).mono ?_); rintro e w5 ⟨rfl, rfl⟩)
    refine hK.out _ _ hHeld (fun hHeld => ?_)
    clear hK K
    try simp only [List.getElem_toArray, List.getElem_cons_zero, List.getElem_cons_succ, Act.put, List.setIfInBounds_toArray, List.set_cons_zero, List.set_cons_succ]
    refine wpAnyH_take (i := 9) (v := ?_) rfl (by kernel_rfl) (by kernel_rfl) (by kernel_rfl) (fun _ _ _ h => h) (Or.inl ⟨by rfl, ?_⟩) hHeld ?_
    rotate_left
    · (intro W hSw; (try dsimp only at hSw); go_simp; (try with_reducible rfl))
    try simp only [List.getElem_toArray, List.getElem_cons_zero, List.getElem_cons_succ, Act.put, List.setIfInBounds_toArray, List.set_cons_zero, List.set_cons_succ]
    refine wpAnyH_take (i := 10) (v := ?_) rfl (by kernel_rfl) (by kernel_rfl) (by kernel_rfl) (fun _ _ _ h => h) (Or.inl ⟨by rfl, ?_⟩) hHeld ?_
    rotate_left
    · (intro W hSw; (try dsimp only at hSw); go_simp; (try with_reducible rfl))
    try simp only [List.getElem_toArray, List.getElem_cons_zero, List.getElem_cons_succ, Act.put, List.setIfInBounds_toArray, List.set_cons_zero, List.set_cons_succ]
    refine wpAnyH_take (i := 11) (v := ?_) rfl (by kernel_rfl) (by kernel_rfl) (by kernel_rfl) (fun _ _ _ h => h) (Or.inl ⟨by rfl, ?_⟩) hHeld ?_
    rotate_left
    · (intro W hSw; (try dsimp only at hSw); go_simp; (try with_reducible rfl))
    try simp only [List.getElem_toArray, List.getElem_cons_zero, List.getElem_cons_succ, Act.put, List.setIfInBounds_toArray, List.set_cons_zero, List.set_cons_succ]
    refine wpAnyH_take (i := 12) (v := ?_) rfl (by kernel_rfl) (by kernel_rfl) (by kernel_rfl) (fun _ _ _ h => h) (Or.inl ⟨by rfl, ?_⟩) hHeld ?_
    rotate_left
    · (intro W hSw; (try dsimp only at hSw); go_simp; (try with_reducible rfl))
    try simp only [List.getElem_toArray, List.getElem_cons_zero, List.getElem_cons_succ, Act.put, List.setIfInBounds_toArray, List.set_cons_zero, List.set_cons_succ]
    refine wpAnyH_take (i := 13) (v := ?_) rfl (by kernel_rfl) (by kernel_rfl) (by kernel_rfl) (fun _ _ _ h => h) (Or.inl ⟨by rfl, ?_⟩) hHeld ?_
    rotate_left
    · (intro W hSw; (try dsimp only at hSw); go_simp; (try with_reducible rfl))
    try simp only [List.getElem_toArray, List.getElem_cons_zero, List.getElem_cons_succ, Act.put, List.setIfInBounds_toArray, List.set_cons_zero, List.set_cons_succ]
    refine wpAnyH_take (i := 14) (v := ?_) rfl (by kernel_rfl) (by kernel_rfl) (by kernel_rfl) (fun _ _ _ h => h) (Or.inl ⟨by rfl, ?_⟩) hHeld ?_
    rotate_left
    · (intro W hSw; (try dsimp only at hSw); go_simp; (try with_reducible rfl))
    try simp only [List.getElem_toArray, List.getElem_cons_zero, List.getElem_cons_succ, Act.put, List.setIfInBounds_toArray, List.set_cons_zero, List.set_cons_succ]
    refine wpAnyH_take (i := 15) (v := ?_) rfl (by kernel_rfl) (by kernel_rfl) (by kernel_rfl) (fun _ _ _ h => h) (Or.inl ⟨by rfl, ?_⟩) hHeld ?_
    rotate_left
    · (intro W hSw; (try dsimp only at hSw); go_simp; (try with_reducible rfl))
    try simp only [List.getElem_toArray, List.getElem_cons_zero, List.getElem_cons_succ, Act.put, List.setIfInBounds_toArray, List.set_cons_zero, List.set_cons_succ]
    refine wpAnyH_take (i := 16) (v := ?_) rfl (by kernel_rfl) (by kernel_rfl) (by kernel_rfl) (fun _ _ _ h => h) (Or.inl ⟨by rfl, ?_⟩) hHeld ?_
    rotate_left
    · (intro W hSw; (try dsimp only at hSw); go_simp; (try with_reducible rfl))
    try simp only [List.getElem_toArray, List.getElem_cons_zero, List.getElem_cons_succ, Act.put, List.setIfInBounds_toArray, List.set_cons_zero, List.set_cons_succ]
    refine wpAnyH_take (i := 18) (v := ?_) rfl (by kernel_rfl) (by kernel_rfl) (by kernel_rfl) (fun _ _ _ h => h) (Or.inl ⟨by rfl, ?_⟩) hHeld ?_
    rotate_left
    · (intro W hSw; (try dsimp only at hSw); go_simp; (try with_reducible rfl))
    try simp only [List.getElem_toArray, List.getElem_cons_zero, List.getElem_cons_succ, Act.put, List.setIfInBounds_toArray, List.set_cons_zero, List.set_cons_succ]
    refine wpAnyH_take (i := 17) (v := ?_) rfl (by kernel_rfl) (by kernel_rfl) (by kernel_rfl) (fun _ _ _ h => h) (Or.inl ⟨by rfl, ?_⟩) hHeld ?_
    rotate_left
    · (intro W hSw; (try dsimp only at hSw); go_simp; (try with_reducible rfl))
    try simp only [List.getElem_toArray, List.getElem_cons_zero, List.getElem_cons_succ, Act.put, List.setIfInBounds_toArray, List.set_cons_zero, List.set_cons_succ]
    refine wpAnyH_take (i := 19) (v := ?_) rfl (by kernel_rfl) (by kernel_rfl) (by kernel_rfl) (fun _ _ _ h => h) (Or.inl ⟨by rfl, ?_⟩) hHeld ?_
    rotate_left
    · (intro W hSw; (try dsimp only at hSw); go_simp; (try with_reducible rfl))
    try simp only [List.getElem_toArray, List.getElem_cons_zero, List.getElem_cons_succ, Act.put, List.setIfInBounds_toArray, List.set_cons_zero, List.set_cons_succ]
    refine wpAnyH_take (i := 20) (v := ?_) rfl (by kernel_rfl) (by kernel_rfl) (by kernel_rfl) (fun _ _ _ h => h) (Or.inl ⟨by rfl, ?_⟩) hHeld ?_
    rotate_left
    · (intro W hSw; (try dsimp only at hSw); go_simp; (try with_reducible rfl))
    try simp only [List.getElem_toArray, List.getElem_cons_zero, List.getElem_cons_succ, Act.put, List.setIfInBounds_toArray, List.set_cons_zero, List.set_cons_succ]
    refine wpAnyH_take (i := 21) (v := ?_) rfl (by kernel_rfl) (by kernel_rfl) (by kernel_rfl) (fun _ _ _ h => h) (Or.inl ⟨by rfl, ?_⟩) hHeld ?_
    rotate_left
    · (intro W hSw; (try dsimp only at hSw); go_simp; (try with_reducible rfl))
    try simp only [List.getElem_toArray, List.getElem_cons_zero, List.getElem_cons_succ, Act.put, List.setIfInBounds_toArray, List.set_cons_zero, List.set_cons_succ]
    refine wpAnyH_take (i := 22) (v := ?_) rfl (by kernel_rfl) (by kernel_rfl) (by kernel_rfl) (fun _ _ _ h => h) (Or.inl ⟨by rfl, ?_⟩) hHeld ?_
    rotate_left
    · (intro W hSw; (try dsimp only at hSw); go_simp; (try with_reducible rfl))
    try simp only [List.getElem_toArray, List.getElem_cons_zero, List.getElem_cons_succ, Act.put, List.setIfInBounds_toArray, List.set_cons_zero, List.set_cons_succ]
    refine wpAnyH_ready (rs := [23]) (by kernel_rfl) (by simp) (AllReadyH.cons rfl (fun K hK => ?_) AllReadyH.nil)
    (go_simp; go_at_call 10; (with_reducible refine (examples_any _).mono ?_); rintro e w4 ⟨rfl, hb4⟩)
    refine hK.out _ _ (S1 w4 hb4) (fun hHeld => ?_)
    clear hK K
    try simp only [List.getElem_toArray, List.getElem_cons_zero, List.getElem_cons_succ, Act.put, List.setIfInBounds_toArray, List.set_cons_zero, List.set_cons_succ]
    refine wpAnyH_take (i := 24) (v := ?_) rfl (by kernel_rfl) (by kernel_rfl) (by kernel_rfl) (fun _ _ _ h => h) (Or.inl ⟨by rfl, ?_⟩) hHeld ?_
    rotate_left
    · (intro W hSw; (try dsimp only at hSw); go_simp; (try with_reducible rfl))
    try simp only [List.getElem_toArray, List.getElem_cons_zero, List.getElem_cons_succ, Act.put, List.setIfInBounds_toArray, List.set_cons_zero, List.set_cons_succ]
    refine wpAnyH_take (i := 25) (v := ?_) rfl (by kernel_rfl) (by kernel_rfl) (by kernel_rfl) (fun _ _ _ h => h) (Or.inl ⟨by rfl, ?_⟩) hHeld ?_
    rotate_left
    · (intro W hSw; (try dsimp only at hSw); go_simp; (try with_reducible rfl))
    try simp only [List.getElem_toArray, List.getElem_cons_zero, List.getElem_cons_succ, Act.put, List.setIfInBounds_toArray, List.set_cons_zero, List.set_cons_succ]
    refine wpAnyH_done (by kernel_rfl) ?_ _
    have hf1 : Below w.heap.size w W2 := hW2 ▸ hbw.out.drew
    have hf2 := hf1.trans (hb3'.mono hf1.size)
    have hf3 := hf2.trans (hHeld.2.2.2.2.mono hf2.size)
    go_wp2
    go_ret
    exact ⟨rfl, hf3⟩
end Go.Proofs.Ythfnadmbakcgcaa
