/-
  LAYER 7 (nvm): the statements' Arm.
-/
import Derived.Test.YtmfahmbebpojpaaNvLaw4
import Derived.Test.YtmfahmbebpojpaaNvOps3
import Derived.Test.YtmfahmbebpojpaaCells
namespace Go.Proofs.Ytmfahmbebpojpaa
open Go Go.RowKit Go.IntWalk
set_option linter.unusedSimpArgs false
set_option maxRecDepth 8000

set_option linter.unusedSectionVars false

def arZ : List UInt8 := List.replicate 400 0
theorem arZ_len : arZ.length = 400 := by simp [arZ]
/-- The memory behind the write that is cut short. -/
def arS2 (a : Nat) (xs : List UInt8) (K : Nat) : NV := { nv0 400 with B := over arZ a (xs.take K), off := true, left := 0, wr := K }
def arS3 (a : Nat) (xs : List UInt8) (K : Nat) : NV := { nv0 400 with B := over arZ a (xs.take K), wr := K }
def arS4 (a n : Nat) (xs : List UInt8) (K : Nat) : NV := { nv0 400 with B := over arZ a xs, wr := (K : Int) + n }
section
variable {a n K : Nat} {xs : List UInt8} (hl : xs.length = n) (ha : a ≤ 255) (hn : n ≤ 100) (hK : K < n)
include hl ha hn hK
theorem ar_take : (xs.take K).length = K := by simp; omega
theorem ar_write : wrs { nv0 400 with left := K } a xs = (arS2 a xs K, false) := by
  have hB : (nv0 400).B.length = 400 := by simp [nv0]
  have hv : validB (nv0 400).B.length a xs.length = true := validB_iff.2 ⟨by omega, by omega, by omega⟩
  have := wrL_armed xs { nv0 400 with left := K } a K rfl rfl (by omega) rfl (by show _ ≤ (nv0 400).B.length; omega) (by omega) (show (0 : Int) ≤ 0 by decide) (show (0 : Int) + K ≤ 9223372036854775807 by omega)
  unfold wrs
  rw [show ({ nv0 400 with left := K } : NV).B = (nv0 400).B from rfl, if_pos hv, this]
  simp [arS2, nv0, arZ]
theorem ar_len3 : (arS3 a xs K).B.length = 400 := by
  have h := ar_take hl ha hn hK
  show (over arZ a (xs.take K)).length = 400
  rw [over_len _ _ _ (by rw [arZ_len]; omega), arZ_len]
theorem ar_len4 : (arS4 a n xs K).B.length = 400 := by
  show (over arZ a xs).length = 400
  rw [over_len _ _ _ (by rw [arZ_len]; omega), arZ_len]
theorem ar_rest : rds (arS3 a xs K) ((a : Int) + K) ((n : Int) - K) = List.replicate (n - K) 0 := by
  have h := ar_take hl ha hn hK
  have h3 := ar_len3 hl ha hn hK
  have hv : validB (arS3 a xs K).B.length ((a : Int) + K) ((n : Int) - K) = true := validB_iff.2 ⟨by omega, by omega, by omega⟩
  have ho : (arS3 a xs K).off = false := rfl
  have e1 : ((a : Int) + K).toNat = a + K := by omega
  have e2 : ((n : Int) - K).toNat = n - K := by omega
  have e3 : (arS3 a xs K).B.drop (a + K) = arZ.drop (a + K) := by
    have := over_rest arZ a (xs.take K) (by rw [arZ_len]; omega)
    rw [h] at this
    exact this
  simp only [rds, hv, ho, if_true, Bool.false_eq_true, if_false, e1, e2, e3]
  simp only [arZ, List.drop_replicate, List.take_replicate]
  congr 1
  omega
theorem ar_read : rds (arS3 a xs K) a K = xs.take K := by
  have h := ar_take hl ha hn hK
  have h3 := ar_len3 hl ha hn hK
  have hv : validB (arS3 a xs K).B.length a K = true := validB_iff.2 ⟨by omega, by omega, by omega⟩
  have ho : (arS3 a xs K).off = false := rfl
  have := over_read arZ a (xs.take K) (by rw [arZ_len]; omega)
  rw [h] at this
  simp only [rds, hv, ho, if_true, Bool.false_eq_true, if_false, Int.toNat_natCast]
  exact this
theorem ar_write2 : wrs (arS3 a xs K) a xs = (arS4 a n xs K, true) := by
  have h := ar_take hl ha hn hK
  have h3 := ar_len3 hl ha hn hK
  rw [wrs_free (arS3 a xs K) a xs rfl (show (-1 : Int) < 0 by decide) rfl (by omega) (show (0 : Int) ≤ K by omega) (show (K : Int) + xs.length ≤ 9223372036854775807 by omega)]
  have e : over (arS3 a xs K).B a xs = over arZ a xs := over_over arZ a (xs.take K) xs (by rw [arZ_len]; omega) (by omega)
  rw [e]
  simp [arS3, arS4, hl]
theorem ar_read2 : rds (arS4 a n xs K) a n = xs := by
  have h4 := ar_len4 hl ha hn hK
  have hv : validB (arS4 a n xs K).B.length a n = true := validB_iff.2 ⟨by omega, by omega, by omega⟩
  have ho : (arS4 a n xs K).off = false := rfl
  have := over_read arZ a xs (by rw [arZ_len]; omega)
  rw [hl] at this
  simp only [rds, hv, ho, if_true, Bool.false_eq_true, if_false, Int.toNat_natCast]
  exact this
end
set_option maxHeartbeats 8000000 in
theorem arm_law (p : Option Addr) (n c : Nat) (xs : List UInt8) (nn aa : Int) (w0 : World) (hl : xs.length = n) (hx : Bin w0 p c xs) (hnn : 0 ≤ nn ∧ nn ≤ 255) (haa : 0 ≤ aa ∧ aa ≤ 255) :
    Calls Try.prog 4 #[.slice p n c, .int .u8 nn, .int .u8 aa] w0 fun e w' => e = .returned (.bool true) ∧ Below w0.heap.size w0 w' := by
  obtain ⟨a, rfl⟩ : ∃ a : Nat, aa = (a : Int) := ⟨aa.toNat, by omega⟩
  have ha : a ≤ 255 := by omega
  have HX := Lib.hid hx
  have HL := Lib.hid hl
  clear hx
  by_cases hn1 : (100 : Int) < (n : Int)
  · go_enter Try.func4, Try.ntmps4
    go_wp2_with (go_at_call 9; (with_reducible refine (wakes_any _).mono ?_); rintro e w1 ⟨rfl, g0⟩)
    go_ret
    exact ⟨rfl, g0⟩
  by_cases hn0 : n = 0
  · subst hn0
    go_enter Try.func4, Try.ntmps4
    go_wp2_with (go_at_call 9; (with_reducible refine (wakes_any _).mono ?_); rintro e w1 ⟨rfl, g0⟩)
    go_ret
    exact ⟨rfl, g0⟩
  have hnz : ((n : Int) == 0) = false := by simp; omega
  have hn2 : n ≤ 100 := by omega
  obtain ⟨K, hK⟩ : ∃ K : Nat, nn.tmod (n : Int) = (K : Int) := ⟨(nn.tmod (n : Int)).toNat, by have := Int.tmod_nonneg (n : Int) hnn.1; omega⟩
  have hKn : K < n := by
    have := Int.tmod_lt_of_pos nn (show (0 : Int) < (n : Int) by omega)
    omega
  have HAr : Hid (∀ (g q : Nat) (W : World), NvS W g q (nv0 400) → Calls Try.prog 15 #[.pointer (some ⟨q, 0, none⟩), .int .i64 K] W fun e w' => e = .returned (.tuple #[]) ∧ NvS w' g q { nv0 400 with left := K } ∧ Chg W w' (Nvb g q .no)) := Lib.hid fun g q W h => by
    have := arm_any g q (nv0 400) K W h
    rwa [if_neg (by omega)] at this
  have HW1 : Hid (∀ (g q : Nat) (W : World), NvS W g q { nv0 400 with left := K } → Bin W p c xs → (0 < xs.length → Away (Nvb g q .no) p) → Calls Try.prog 16 #[.pointer (some ⟨q, 0, none⟩), .int .i64 a, .slice p n c] W fun e w' => e = .returned (.bool false) ∧ NvS w' g q (arS2 a xs K) ∧ Chg W w' (Nvb g q .no)) := Lib.hid fun g q W h hb hw => by
    have := writeBytes_any g q _ a p n c xs W h HL.out hb hw
    rw [ar_write hl ha hn2 hKn] at this
    exact this
  have HPn : Hid (∀ (g q : Nat) (W : World), NvS W g q (arS2 a xs K) → Calls Try.prog 20 #[.pointer (some ⟨q, 0, none⟩)] W fun e w' => e = .returned (.tuple #[]) ∧ NvS w' g q (arS3 a xs K) ∧ Chg W w' (Nvb g q .no)) := Lib.hid fun g q W h => pon_any g q _ W h
  have HRr : Hid (∀ (g q : Nat) (W : World), NvS W g q (arS3 a xs K) → Calls Try.prog 21 #[.pointer (some ⟨q, 0, none⟩), .int .i64 ((a : Int) + K), .int .i64 ((n : Int) - K)] W fun e w' => ∃ p1 c1, e = .returned (.slice p1 (n - K) c1) ∧ Bin w' p1 c1 (List.replicate (n - K) 0) ∧ Grew W w') := Lib.hid fun g q W h => by
    have := readBytes_any g q _ ((a : Int) + K) ((n : Int) - K) W h (by omega)
    rw [ar_rest hl ha hn2 hKn, List.length_replicate] at this
    refine this.mono ?_
    rintro e w1 ⟨p1, c1, rfl, h1, h2⟩
    exact ⟨p1, c1, rfl, h1.bin.2, h2⟩
  have HR1' : Hid (∀ (g q : Nat) (W : World), NvS W g q (arS3 a xs K) → Calls Try.prog 21 #[.pointer (some ⟨q, 0, none⟩), .int .i64 a, .int .i64 K] W fun e w' => ∃ v, e = .returned v ∧ (Grew W w' ∧ IsA (Nvb g q .no) (xs.take K) v w')) := Lib.hid fun g q W h => by
    have := readBytes_any g q _ a K W h (by omega)
    rw [ar_read hl ha hn2 hKn] at this
    refine this.mono ?_
    rintro e w1 ⟨p1, c1, rfl, h1, h2⟩
    exact ⟨_, rfl, h2, p1, c1, rfl, h1.bin.2, fun ad had hk => by
      have h3 := (h1.place ad had).1
      have h4 := h.blk_lt (k := ad.block) hk
      omega⟩
  have HW2' : Hid (∀ (g q : Nat) (W : World), NvS W g q (arS3 a xs K) → Bin W p c xs → (0 < xs.length → Away (Nvb g q .no) p) → Calls Try.prog 16 #[.pointer (some ⟨q, 0, none⟩), .int .i64 a, .slice p n c] W fun e w' => ∃ v, e = .returned v ∧ (Chg W w' (Nvb g q .no) ∧ (v = .bool true ∧ NvS w' g q (arS4 a n xs K)))) := Lib.hid fun g q W h hb hw => by
    have := writeBytes_any g q _ a p n c xs W h HL.out hb hw
    rw [ar_write2 hl ha hn2 hKn] at this
    refine this.mono ?_
    rintro e w1 ⟨rfl, h1, h2⟩
    exact ⟨_, rfl, h2, rfl, h1⟩
  have HR2' : Hid (∀ (g q : Nat) (W : World), NvS W g q (arS4 a n xs K) → Calls Try.prog 21 #[.pointer (some ⟨q, 0, none⟩), .int .i64 a, .int .i64 n] W fun e w' => ∃ v, e = .returned v ∧ (Grew W w' ∧ IsA (Nvb g q .no) xs v w')) := Lib.hid fun g q W h => by
    have := readBytes_any g q _ a n W h (by omega)
    rw [ar_read2 hl ha hn2 hKn] at this
    refine this.mono ?_
    rintro e w1 ⟨p1, c1, rfl, h1, h2⟩
    exact ⟨_, rfl, h2, p1, c1, rfl, h1.bin.2, fun ad had hk => by
      have h3 := (h1.place ad had).1
      have h4 := h.blk_lt (k := ad.block) hk
      omega⟩
  have HOf : Hid (∀ (g q : Nat) (W : World), NvS W g q (arS2 a xs K) → Calls Try.prog 17 #[.pointer (some ⟨q, 0, none⟩)] W fun e w' => e = .returned (.bool true) ∧ W = w') := Lib.hid fun g q W h => off_any g q _ W h
  have HWr : Hid (∀ (g q : Nat) (W : World), NvS W g q (arS2 a xs K) → Calls Try.prog 18 #[.pointer (some ⟨q, 0, none⟩)] W fun e w' => e = .returned (.int .i64 K) ∧ W = w') := Lib.hid fun g q W h => writes_any g q _ W h
  clear hn0 hl
  go_enter Try.func4, Try.ntmps4
  go_wp2_with (first
    | (go_at_call 9; (with_reducible refine (wakes_any _).mono ?_); rintro e w1 ⟨rfl, g0⟩; have HB0 := Lib.hid g0; clear g0)
    | (go_at_call 11; (with_reducible refine (new_any 400 _ (by omega)).mono ?_); rintro e w1 ⟨g, q, rfl, s1, g1, hg, hq⟩; have HS := Lib.hid s1; have HB := Lib.hid (Grew.trans HB0.out g1); have HN := Lib.hid (nvb_new (Nat.le_trans (Below.size HB0.out) hg) (Nat.le_trans (Below.size HB0.out) hq)); clear s1 g1 hg hq HB0)
    | (go_at_call 15; (with_reducible refine (HAr.out g q _ HS.out).mono ?_); rintro e w1 ⟨rfl, s1, c1⟩; replace HB := Lib.hid (grew_lift HB.out c1 HN.out); replace HS := Lib.hid s1; clear s1 c1 HAr)
    | (go_at_call 16; (with_reducible refine (HW1.out g q _ HS.out (HX.out.gr HB.out) (fun h => HX.out.sub HN.out h)).mono ?_); rintro e w1 ⟨rfl, s1, c1⟩; replace HB := Lib.hid (grew_lift HB.out c1 HN.out); replace HS := Lib.hid s1; clear s1 c1 HW1)
    | (go_at_call 17; (with_reducible refine (HOf.out g q _ HS.out).mono ?_); rintro e _ ⟨rfl, rfl⟩)
    | (go_at_call 18; (with_reducible refine (HWr.out g q _ HS.out).mono ?_); rintro e _ ⟨rfl, rfl⟩)
    | (go_at_call 19; (with_reducible refine (write_no g q (arS2 a xs K) a _ HS.out rfl).mono ?_); rintro e w1 ⟨rfl, s1, c1⟩; replace HB := Lib.hid (grew_lift HB.out c1 HN.out); replace HS := Lib.hid s1; clear s1 c1)
    | (go_at_call 20; (with_reducible refine (HPn.out g q _ HS.out).mono ?_); rintro e w1 ⟨rfl, s1, c1⟩; replace HB := Lib.hid (grew_lift HB.out c1 HN.out); replace HS := Lib.hid s1; clear s1 c1 HPn)
    | (go_at_call 21; (with_reducible refine (HRr.out g q _ HS.out).mono ?_); rintro e wz ⟨p1, c1, rfl, h1, g1⟩; replace HB := Lib.hid (Grew.trans HB.out g1); replace HS := Lib.hid (HS.out.grew g1); have HZ := Lib.hid h1; clear h1 g1 HRr))
  obtain ⟨m, hm⟩ : ∃ m, m = n - K := ⟨_, rfl⟩
  rw [← hm] at HZ ⊢
  have HKn := Lib.hid (Nat.le_of_lt hKn)
  have HKl := Lib.hid (show (xs.take K).length = K by rw [List.length_take, HL.out]; omega)
  have Hnc : Hid (n ≤ c) := Lib.hid (by have := HX.out.cap; rw [HL.out] at this; exact this)
  have hm2 : m ≤ 100 := by omega
  clear hm hnz hK hKn
  go_loopg [77] m (fun gg iv wr => ∃ k : Nat, iv = .int .i64 (k : Int) ∧ k ≤ m ∧ gg = m - k ∧ wr = wz)
  case atStart => exact ⟨0, rfl, Nat.zero_le _, rfl, rfl⟩
  case round =>
    obtain ⟨k, rfl, hk, rfl, rfl⟩ := hrel
    by_cases hlt : k < m
    · have hz0 : 0 < (List.replicate m (0 : UInt8)).length := by simp; omega
      obtain ⟨b, o, rfl, -⟩ := HZ.out.cells hz0
      have hz1 := HZ.out.cell k (by simp; omega)
      have e : (List.replicate m (0 : UInt8)).getD k 0 = 0 := by simp [List.getD, hlt]
      rw [e] at hz1
      have hz2 : wr.cell? ⟨b, o + k, none⟩ = some (.int .u8 0) := hz1
      clear hz1 hz0 e
      have HLT := Lib.hid (Nat.succ_le_of_lt hlt)
      go_wp2
      go_roundg (m - (k + 1))
      case measure => have := HLT.out; omega
      case rel => exact ⟨k + 1, by go_num, HLT.out, rfl, rfl⟩
    · obtain rfl : m = k := by omega
      go_wp2
      have HR1 : Hid (∀ w, Grew wr.drew w → _) := Lib.hid fun w hg => HR1'.out g q w (HS.out.grew (Grew.trans (Grew.drew wr) hg))
      have HW2 : Hid (∀ w, Grew wr.drew w → _) := Lib.hid fun w hg => HW2'.out g q w (HS.out.grew (Grew.trans (Grew.drew wr) hg)) (HX.out.gr (Grew.trans HB.out (Grew.trans (Grew.drew wr) hg))) (fun h => HX.out.sub HN.out h)
      have HR2 : Hid (∀ w, NvS w g q (arS4 a n xs K) → _) := Lib.hid fun w h => HR2'.out g q w h
      have HXR2 : Hid (∀ w, Chg wr.drew w (Nvb g q .no) → Bin w p c xs) := Lib.hid fun w hc => by
        rcases Nat.eq_zero_or_pos xs.length with h | h
        · have := HX.out
          exact ⟨this.cap, this.max, this.bare, fun h' => absurd h' (by omega)⟩
        · exact (HX.out.gr (Grew.trans HB.out (Grew.drew wr))).chg hc (HX.out.sub HN.out h)
      have HXR : Hid (∀ w, Chg wr.drew w (Nvb g q .no) → Bin w p c (xs.take K)) := Lib.hid fun w hc => (HXR2.out w hc).upto K (by rw [HL.out]; exact HKn.out)
      replace HB := Lib.hid (Grew.trans HB.out (Grew.drew wr))
      refine wp_postsW 14 (fun i => Nat.beq i 14 || Nat.beq i 15 || Nat.beq i 16 || Nat.beq i 21) (fun i => Nat.beq i 3 || Nat.beq i 14) 28 (Nvb g q .no) [some 84, some 85, some 86, some 87, some 88, some 89, some 90, some 91, some 92, some 93, some 94, some 95, some 96, some 97, some 98, some 99, some 100, some 101, some 102, some 103, some 104, some 105, some 106, some 107, some 108, some 109, some 110, some 6] [false, false, false, false, false, false, true, false, false, false, false, false, false, false, false, false, false, false, false, false, false, false, false, false, false, false, false, false, false, false, false, false, false, false, false, false, false, false, false, false, false, false, false, false, false, false, false, false, false, false, false, false, false, false, false, false, false, false, false, false, false, false, false, false, false, false, false, false, false, false, false, false, false, false, false, false, false, false, false, false, false, false, false, false, true, true, true, true, true, true, true, true, true, true, true, true, true, true, true, true, true, true, true, true, true, true, true, true, true, true, true] [fun v _ => v = .pointer (some ⟨q, 0, none⟩), fun v _ => v = .int .i64 (a : Int), fun v _ => v = .int .i64 (K : Int), fun v w => IsA (Nvb g q .no) (xs.take K) v w, fun v _ => v = .string ⟨(xs.take K).toArray⟩, fun v _ => v = .slice p n c, fun v _ => v = .int .i64 (K : Int), fun v _ => v = .slice p K c, fun v _ => v = .string ⟨(xs.take K).toArray⟩, fun v _ => v = .bool true, fun v _ => v = .bool true, fun v _ => v = .pointer (some ⟨q, 0, none⟩), fun v _ => v = .int .i64 (a : Int), fun v _ => v = .slice p n c, fun v w => v = .bool true ∧ NvS w g q (arS4 a n xs K), fun v w => v = .bool true ∧ NvS w g q (arS4 a n xs K), fun v w => v = .bool true ∧ NvS w g q (arS4 a n xs K), fun v _ => v = .pointer (some ⟨q, 0, none⟩), fun v _ => v = .int .i64 (a : Int), fun v _ => v = .slice p n c, fun v _ => v = .int .i64 (n : Int), fun v w => IsA (Nvb g q .no) xs v w, fun v _ => v = .string ⟨xs.toArray⟩, fun v _ => v = .slice p n c, fun v _ => v = .string ⟨xs.toArray⟩, fun v _ => v = .bool true, fun v _ => v = .bool true, fun v _ => v = .bool true] (by kernel_rfl) (by kernel_rfl) (by kernel_rfl) rfl (by kernel_rfl) (by kernel_rfl) ?_ ⟨?_, ?_, ?_, ?_, ?_, ?_, ?_, ?_, ?_, ?_, ?_, ?_, ?_, ?_, ?_, ?_, ?_, ?_, ?_, ?_, ?_, ?_, ?_, ?_, ?_, ?_, ?_, ?_, trivial⟩ ?_
      · exact ⟨fun _ _ _ _ h => h, fun _ _ _ _ h => h, fun _ _ _ _ h => h, IsA.chg, fun _ _ _ _ h => h, fun _ _ _ _ h => h, fun _ _ _ _ h => h, fun _ _ _ _ h => h, fun _ _ _ _ h => h, fun _ _ _ _ h => h, fun _ _ _ _ h => h, fun _ _ _ _ h => h, fun _ _ _ _ h => h, fun _ _ _ _ h => h, fun _ _ _ h p => ⟨p.1, p.2.grew h⟩, fun _ _ _ h p => ⟨p.1, p.2.grew h⟩, fun _ _ _ h p => ⟨p.1, p.2.grew h⟩, fun _ _ _ _ h => h, fun _ _ _ _ h => h, fun _ _ _ _ h => h, fun _ _ _ _ h => h, fun _ _ _ h p => IsA.chg _ _ _ (Chg.of_grew h _) p, fun _ _ _ _ h => h, fun _ _ _ _ h => h, fun _ _ _ _ h => h, fun _ _ _ _ h => h, fun _ _ _ _ h => h, fun _ _ _ _ h => h, trivial⟩
      · intro u w hR hn hd; exact runs_move ⟨Grew.refl _, rfl⟩
      · intro u w hR hn hd; exact runs_move ⟨Grew.refl _, rfl⟩
      · intro u w hR hn hd; exact runs_move ⟨Grew.refl _, rfl⟩
      · intro u w hR hn hd; exact runs_c3 enters_readBytes (ev (hd.1 rfl)) (ev (hd.2.1 rfl)) (ev (hd.2.2.1 rfl)) (HR1.out w (hn rfl))
      · intro u w hR hn hd; exact (by obtain ⟨p1, c1, e1, b1, -⟩ := (hd.1 rfl); exact runs_convb (ev e1) rfl b1 ⟨Grew.refl _, rfl⟩)
      · intro u w hR hn hd; exact runs_move ⟨Grew.refl _, rfl⟩
      · intro u w hR hn hd; exact runs_move ⟨Grew.refl _, rfl⟩
      · intro u w hR hn hd; exact runs_cuth (ev (hd.1 rfl)) (ev (hd.2.1 rfl)) HKn.out Hnc.out ⟨Grew.refl _, rfl⟩
      · intro u w hR hn hd; exact runs_convb (ev (hd.1 rfl)) HKl.out (HXR.out w hR) ⟨Grew.refl _, rfl⟩
      · intro u w hR hn hd; exact runs_eqls (ev (hd.1 rfl)) (ev (hd.2.1 rfl)) ⟨Grew.refl _, congrArg Value.bool (beq_self_eq_true (xs.take K))⟩
      · intro u w hR hn hd; exact runs_move ⟨Grew.refl _, (hd.1 rfl)⟩
      · intro u w hR hn hd; exact ⟨fun _ => runs_move ⟨Grew.refl _, rfl⟩, fun hn => absurd (hd.1 rfl) hn⟩
      · intro u w hR hn hd; exact ⟨fun _ => runs_move ⟨Grew.refl _, rfl⟩, fun hn => absurd (hd.1 rfl) hn⟩
      · intro u w hR hn hd; exact ⟨fun _ => runs_move ⟨Grew.refl _, rfl⟩, fun hn => absurd (hd.1 rfl) hn⟩
      · intro u w hR hn hd; exact ⟨fun _ => runs_c3 enters_writeBytes (ev (hd.1 rfl)) (ev (hd.2.1 rfl)) (ev (hd.2.2.1 rfl)) (HW2.out w (hn rfl)), fun hn => absurd (hd.2.2.2.1 rfl) hn⟩
      · intro u w hR hn hd; exact runs_and (hd.1 rfl) (fun _ => (hd.2.1 rfl).1) ⟨Grew.refl _, rfl, (hd.2.1 rfl).2⟩
      · intro u w hR hn hd; exact runs_mv (ev (hd.1 rfl).1) ⟨Grew.refl _, rfl, (hd.1 rfl).2⟩
      · intro u w hR hn hd; exact ⟨fun _ => runs_move ⟨Grew.refl _, rfl⟩, fun hn => absurd (hd.1 rfl).1 hn⟩
      · intro u w hR hn hd; exact ⟨fun _ => runs_move ⟨Grew.refl _, rfl⟩, fun hn => absurd (hd.1 rfl).1 hn⟩
      · intro u w hR hn hd; exact ⟨fun _ => runs_move ⟨Grew.refl _, rfl⟩, fun hn => absurd (hd.1 rfl).1 hn⟩
      · intro u w hR hn hd; exact ⟨fun _ => runs_lenb (ev (hd.1 rfl)) ⟨Grew.refl _, rfl⟩, fun hn => absurd (hd.2.1 rfl).1 hn⟩
      · intro u w hR hn hd; exact ⟨fun _ => runs_c3 enters_readBytes (ev (hd.1 rfl)) (ev (hd.2.1 rfl)) (ev (hd.2.2.1 rfl)) (HR2.out w (hd.2.2.2.1 rfl).2), fun hn => absurd (hd.2.2.2.1 rfl).1 hn⟩
      · intro u w hR hn hd; exact ⟨fun _ => (by obtain ⟨p1, c1, e1, b1, -⟩ := (hd.1 rfl); exact runs_convb (ev e1) rfl b1 ⟨Grew.refl _, rfl⟩), fun hn => absurd (hd.2.1 rfl).1 hn⟩
      · intro u w hR hn hd; exact ⟨fun _ => runs_move ⟨Grew.refl _, rfl⟩, fun hn => absurd (hd.1 rfl).1 hn⟩
      · intro u w hR hn hd; exact ⟨fun _ => runs_convb (ev (hd.1 rfl)) HL.out (HXR2.out w hR) ⟨Grew.refl _, rfl⟩, fun hn => absurd (hd.2.1 rfl).1 hn⟩
      · intro u w hR hn hd; exact ⟨fun _ => runs_eqls (ev (hd.1 rfl)) (ev (hd.2.1 rfl)) ⟨Grew.refl _, congrArg Value.bool (beq_self_eq_true xs)⟩, fun hn => absurd (hd.2.2.1 rfl).1 hn⟩
      · intro u w hR hn hd; exact runs_and (hd.1 rfl).1 (fun _ => (hd.2.1 rfl)) ⟨Grew.refl _, rfl⟩
      · intro u w hR hn hd; exact runs_assign ⟨Grew.refl _, (hd.1 rfl)⟩
      intro u w hR h
      refine wpAny_done rfl ?_
      have he : u 6 = .bool true := h 27 (by decide)
      simp only [mixA, mixL, cond_true, cond_false]
      rw [he]
      replace HB := Lib.hid (grew_lift HB.out hR HN.out)
      go_wp2
      go_ret
      exact ⟨rfl, HB.out⟩
end Go.Proofs.Ytmfahmbebpojpaa
