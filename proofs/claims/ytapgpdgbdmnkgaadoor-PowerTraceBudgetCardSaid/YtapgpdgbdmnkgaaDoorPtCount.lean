/-
  CONTRACTS OF LAYER 13 (powertrace): Count of both.
-/
import Derived.Test.YtapgpdgbdmnkgaaDoorPtSeq
import Derived.Test.YtapgpdgbdmnkgaaDoorPtLists
namespace Go.Proofs.YtapgpdgbdmnkgaaDoor
open Go Go.RowKit Go.IntWalk
open Go.Lib (itoa)
set_option linter.unusedSimpArgs false
set_option linter.unusedVariables false
set_option maxRecDepth 8000

theorem okE_iff (n : Int) : okE n = true ↔ 0 ≤ n ∧ n ≤ 1073741824 := by simp [okE]
theorem quo_int (a : Nat) (m : Nat) : (a : Int) / ((m : Int) + 1) = ((a / (m + 1) : Nat) : Int) := by
  rw [show ((m : Int) + 1) = ((m + 1 : Nat) : Int) by omega]; exact (Int.natCast_ediv a (m + 1)).symm
theorem cnt_stop {m c k f : Nat} (hm : m ≤ 1073741824) (hc : c = geo m (k + 1)) (hk : k < f) (h : 4611686018427387903 / (m + 1) < c) : cnt f m = 4611686018427387904 := by
  rw [cnt_yes f m hm]
  have h1 := (quo_gt (by omega : 0 < m + 1)).1 h
  have h2 := geo_next m (k + 1)
  have h3 := geo_mono m (show k + 1 + 1 ≤ f + 1 by omega)
  rw [hc] at h1
  omega
theorem cnt_step {m c k : Nat} (hc : c = geo m (k + 1)) (h : ¬ 4611686018427387903 / (m + 1) < c) : c * (m + 1) + 1 = geo m (k + 1 + 1) ∧ c * (m + 1) + 1 ≤ 4611686018427387904 := by
  have h1 : ¬ 4611686018427387903 < c * (m + 1) := fun hh => h ((quo_gt (by omega : 0 < m + 1)).2 hh)
  rw [geo_next m (k + 1), ← hc]
  exact ⟨rfl, by omega⟩
set_option maxHeartbeats 2000000 in
theorem count_any (f m : Int) (hf : -9223372036854775808 ≤ f ∧ f ≤ 9223372036854775807) (hm : -9223372036854775808 ≤ m ∧ m ≤ 9223372036854775807) (w : World) :
    Calls Tryd.prog 31 #[.int .i64 f, .int .i64 m] w fun e w' => e = .returned (.int .i64 (cnt f m)) ∧ Grew w w' := by
  by_cases hf0 : f < 0
  · have HN := Lib.hid (cnt_no (f := f) (m := m) (by omega))
    go_enter Tryd.func31, Tryd.ntmps31
    go_wp2
    all_goals first | (exfalso; omega) | skip
    go_ret
    exact ⟨ret_i64 HN.out.symm, Grew.refl _⟩
  have HV := Lib.hid (venergy_any m)
  cases hE : okE m with
  | false =>
    have HN := Lib.hid (cnt_no (f := f) (m := m) (fun h => by rw [(okE_iff m).2 h.2] at hE; cases hE))
    rw [hE] at HV
    clear hE
    go_enter Tryd.func31, Tryd.ntmps31
    go_wp2_with (go_at_call 44; (with_reducible refine (HV.out _).mono ?_); rintro e w1 ⟨rfl, g1⟩; have HG := Lib.hid g1; clear g1)
    all_goals first | (exfalso; omega) | skip
    go_ret
    exact ⟨ret_i64 HN.out.symm, HG.out⟩
  | true =>
    rw [hE] at HV
    have hmb := (okE_iff m).1 hE
    obtain ⟨m, rfl⟩ : ∃ u : Nat, m = u := ⟨m.toNat, by omega⟩
    obtain ⟨f, rfl⟩ : ∃ u : Nat, f = u := ⟨f.toNat, by omega⟩
    clear hE
    by_cases hm0 : m = 0
    · subst hm0
      have HC := Lib.hid (cnt_yes f 0 (by decide))
      rw [show ((0 : Nat) : Int) = 0 from rfl] at HV HC ⊢
      rw [geo_zero] at HC
      by_cases hfl : f ≤ 4611686018427387903
      · have hml : (f : Int) ≤ 4611686018427387903 := by omega
        go_enter Tryd.func31, Tryd.ntmps31
        go_wp2_with (go_at_call 44; (with_reducible refine (HV.out _).mono ?_); rintro e w1 ⟨rfl, g1⟩; have HG := Lib.hid g1; clear g1)
        all_goals first | (exfalso; omega) | skip
        go_ret
        refine ⟨ret_i64 ?_, HG.out⟩
        rw [HC.out]
        omega
      · have hml : (4611686018427387903 : Int) ≤ f := by omega
        have hml2 : (4611686018427387903 : Int) < f := by omega
        go_enter Tryd.func31, Tryd.ntmps31
        go_wp2_with (go_at_call 44; (with_reducible refine (HV.out _).mono ?_); rintro e w1 ⟨rfl, g1⟩; have HG := Lib.hid g1; clear g1)
        all_goals first | (exfalso; omega) | skip
        go_ret
        refine ⟨ret_i64 ?_, HG.out⟩
        rw [HC.out]
        omega
    · have hm1 : ((m : Int) == 0) = false := by rw [beq_eq_false_iff_ne]; omega
      have hm2 : ((m : Int) + 1 == 0) = false := by rw [beq_eq_false_iff_ne]; omega
      have hm3 : ¬ (m : Int) = 0 := by omega
      have hm4 : ¬ (m : Int) + 1 = 0 := by omega
      have HQ := Lib.hid (quo_int 4611686018427387903 m)
      have HMB : Hid (m ≤ 1073741824) := Lib.hid (by omega)
      clear hm0
      go_enter Tryd.func31, Tryd.ntmps31
      go_wp2_with (go_at_call 44; (with_reducible refine (HV.out _).mono ?_); rintro e w1 ⟨rfl, g1⟩; have HG := Lib.hid g1; clear g1)
      all_goals first | (exfalso; omega) | skip
      go_loopg [6, 22] f (fun gg cv iv wr => ∃ (k c : Nat), cv = .int .i64 (c : Int) ∧ iv = .int .i64 (k : Int) ∧ k ≤ f ∧ gg = f - k ∧ c ≤ 4611686018427387904 ∧ Hid (c = geo m (k + 1)) ∧ Hid (Grew w wr))
      case atStart => exact ⟨0, 1, rfl, rfl, Nat.zero_le _, rfl, by omega, Lib.hid (geo_one m).symm, HG⟩
      case round =>
        obtain ⟨k, c, rfl, rfl, hk, rfl, hcl, HC, HG⟩ := hrel
        by_cases hlt : k < f
        · have hq := HQ.out
          rw [show ((4611686018427387903 : Nat) : Int) = 4611686018427387903 from rfl] at hq
          by_cases hov : 4611686018427387903 / (m + 1) < c
          · have HN := Lib.hid (cnt_stop HMB.out HC.out hlt hov)
            have hv : (4611686018427387903 : Int) / ((m : Int) + 1) < (c : Int) := by rw [hq]; exact Int.ofNat_lt.2 hov
            clear hq HQ hov
            go_wp2
            all_goals first | (exfalso; omega) | skip
            go_ret
            exact ⟨ret_i64 HN.out.symm, HG.out⟩
          · have HS := Lib.hid (cnt_step HC.out hov)
            have hv : ¬ (4611686018427387903 : Int) / ((m : Int) + 1) < (c : Int) := by rw [hq]; exact fun h => hov (Int.ofNat_lt.1 h)
            have hs2 := HS.out.2
            have hs3 : (c : Int) * ((m : Int) + 1) + 1 = ((c * (m + 1) + 1 : Nat) : Int) := by simp
            have hs4 : (c : Int) * ((m : Int) + 1) = ((c * (m + 1) : Nat) : Int) := by simp
            have hw1 : IntKind.i64.wrap ((c : Int) * ((m : Int) + 1)) = (c : Int) * ((m : Int) + 1) := i64_in _ (by rw [hs4]; omega)
            have hw2 : IntKind.i64.wrap ((c : Int) * ((m : Int) + 1) + 1) = (c : Int) * ((m : Int) + 1) + 1 := i64_in _ (by rw [hs3]; omega)
            have HS3 := Lib.hid hs3
            clear hq HQ hov hs3 hs4
            go_wp2
            all_goals first | (exfalso; omega) | skip
            go_roundg (f - (k + 1))
            case measure => omega
            case rel => exact ⟨k + 1, c * (m + 1) + 1, by rw [HS3.out], by go_num, hlt, rfl, HS.out.2, Lib.hid HS.out.1, HG⟩
        · obtain rfl : k = f := by omega
          have HN := Lib.hid (cnt_yes k m HMB.out)
          go_wp2
          all_goals first | (exfalso; omega) | skip
          go_ret
          refine ⟨ret_i64 ?_, HG.out⟩
          rw [HN.out, ← HC.out]
          omega
theorem lt_cap {a b : Nat} : a < b → min a b = a := fun h => Nat.min_eq_left (Nat.le_of_lt h)
theorem rcnt_over {m s pw k f : Nat} (hm : m ≤ 1073741824) (hs : s = geo m k) (hp : pw = min ((m + 1) ^ k) 4611686018427387904) (hk : k ≤ f) (h : 4611686018427387904 ≤ pw + s) : cnt f m = 4611686018427387904 := by
  rw [cnt_yes f m hm]
  have h3 := geo_mono m (show k + 1 ≤ f + 1 by omega)
  have h4 : geo m (k + 1) = geo m k + (m + 1) ^ k := rfl
  omega
theorem rcnt_step {m s pw k : Nat} (hs : s = geo m k) (hp : pw = min ((m + 1) ^ k) 4611686018427387904) (h : pw + s < 4611686018427387904) : s + pw = geo m (k + 1) ∧ pw = (m + 1) ^ k := by
  have h4 : geo m (k + 1) = geo m k + (m + 1) ^ k := rfl
  omega
theorem rcnt_big {m pw k : Nat} (hp : pw = (m + 1) ^ k) (h : 4611686018427387904 / (m + 1) < pw) : 4611686018427387904 = min ((m + 1) ^ (k + 1)) 4611686018427387904 := by
  have h1 := (quo_gt (by omega : 0 < m + 1)).1 h
  rw [Nat.pow_succ, ← hp]
  omega
theorem rcnt_mul {m pw k : Nat} (hp : pw = (m + 1) ^ k) (h : ¬ 4611686018427387904 / (m + 1) < pw) : pw * (m + 1) = min ((m + 1) ^ (k + 1)) 4611686018427387904 := by
  have h1 : ¬ 4611686018427387904 < pw * (m + 1) := fun hh => h ((quo_gt (by omega : 0 < m + 1)).2 hh)
  rw [Nat.pow_succ, ← hp]
  omega
set_option maxHeartbeats 2000000 in
theorem rcount_any (f m : Int) (hf : -9223372036854775808 ≤ f ∧ f ≤ 1000) (hm : -9223372036854775808 ≤ m ∧ m ≤ 9223372036854775807) (w : World) :
    Calls Tryd.prog 32 #[.int .i64 f, .int .i64 m] w fun e w' => e = .returned (.int .i64 (cnt f m)) ∧ Grew w w' := by
  by_cases hc : 0 ≤ f ∧ 0 ≤ m ∧ m ≤ 1073741824
  · obtain ⟨hf0, hm0, hm1⟩ := hc
    obtain ⟨m, rfl⟩ : ∃ u : Nat, m = u := ⟨m.toNat, by omega⟩
    obtain ⟨f, rfl⟩ : ∃ u : Nat, f = u := ⟨f.toNat, by omega⟩
    have HMB : Hid (m ≤ 1073741824) := Lib.hid (by omega)
    have hf1 : f ≤ 1000 := by omega
    have hm2 : ¬ (m : Int) < 0 := by omega
    have hf2 : ¬ (f : Int) < 0 := by omega
    have hm3 : ¬ (1073741824 : Int) < m := by omega
    by_cases hz : m = 0
    · subst hz
      have HN : Hid (cnt (f : Int) 0 = (f : Int) + 1) := Lib.hid (by
        have := cnt_yes f 0 (by decide)
        rw [geo_zero] at this
        rw [show ((0 : Nat) : Int) = 0 from rfl] at this
        rw [this]
        omega)
      rw [show ((0 : Nat) : Int) = 0 from rfl] at hm2 hm3 ⊢
      clear hm hm0 hm1 hm2 hm3 HMB
      go_enter Tryd.func32, Tryd.ntmps32
      go_wp2
      all_goals first | (exfalso; omega) | skip
      go_loopg [6, 7, 8] 1 (fun gg sv pv iv wr => ∃ (k s pw : Nat), sv = .int .i64 (s : Int) ∧ pv = .int .i64 (pw : Int) ∧ iv = .int .i64 (k : Int) ∧ k ≤ f ∧ pw + s < 4611686018427387904 ∧ wr = w)
      case atStart => exact ⟨0, 0, 1, rfl, rfl, rfl, Nat.zero_le _, by omega, rfl⟩
      case round =>
        obtain ⟨k, s, pw, rfl, rfl, rfl, hk, hs, rfl⟩ := hrel
        have hv : ¬ (4611686018427387904 : Int) - s ≤ pw := by omega
        have hle : (k : Int) ≤ f := by omega
        have hf9 : ¬ (4611686018427387903 : Int) ≤ f := by omega
        go_wp2
        all_goals first | (exfalso; omega) | skip
        go_ret
        exact ⟨ret_i64 HN.out.symm, Grew.refl _⟩
    · have hz1 : ((m : Int) == 0) = false := by rw [beq_eq_false_iff_ne]; omega
      have hz2 : ¬ (m : Int) = 0 := by omega
      have hz3 : ((m : Int) + 1 == 0) = false := by rw [beq_eq_false_iff_ne]; omega
      have hz4 : ¬ (m : Int) + 1 = 0 := by omega
      have HQ := Lib.hid (quo_int 4611686018427387904 m)
      clear hz
      go_enter Tryd.func32, Tryd.ntmps32
      go_wp2
      all_goals first | (exfalso; omega) | skip
      go_loopg [6, 7, 8] (f + 1) (fun gg sv pv iv wr => ∃ (k s pw : Nat), sv = .int .i64 (s : Int) ∧ pv = .int .i64 (pw : Int) ∧ iv = .int .i64 (k : Int) ∧ k ≤ f + 1 ∧ gg = f + 1 - k ∧ pw ≤ 4611686018427387904 ∧ s < 4611686018427387904 ∧ Hid (s = geo m k ∧ pw = min ((m + 1) ^ k) 4611686018427387904) ∧ wr = w)
      case atStart => exact ⟨0, 0, 1, rfl, rfl, rfl, by omega, rfl, by omega, by omega, Lib.hid ⟨rfl, by simp⟩, rfl⟩
      case round =>
        obtain ⟨k, s, pw, rfl, rfl, rfl, hk, rfl, hp, hs, HI, rfl⟩ := hrel
        by_cases hle : k ≤ f
        · by_cases hov : 4611686018427387904 ≤ pw + s
          · have HN := Lib.hid (rcnt_over HMB.out HI.out.1 HI.out.2 hle hov)
            have hv : (4611686018427387904 : Int) - s ≤ pw := by omega
            clear HQ
            go_wp2
            all_goals first | (exfalso; omega) | skip
            go_ret
            exact ⟨ret_i64 HN.out.symm, Grew.refl _⟩
          · have HS := Lib.hid (rcnt_step HI.out.1 HI.out.2 (by omega))
            have hv : ¬ (4611686018427387904 : Int) - s ≤ pw := by omega
            have hq := HQ.out
            rw [show ((4611686018427387904 : Nat) : Int) = 4611686018427387904 from rfl] at hq
            by_cases hb : 4611686018427387904 / (m + 1) < pw
            · have HB := Lib.hid (rcnt_big HS.out.2 hb)
              have hv2 : (4611686018427387904 : Int) / ((m : Int) + 1) < (pw : Int) := by rw [hq]; exact Int.ofNat_lt.2 hb
              clear hq HQ hb
              go_wp2
              all_goals first | (exfalso; omega) | skip
              go_roundg (f + 1 - (k + 1))
              case measure => omega
              case rel => exact ⟨k + 1, s + pw, 4611686018427387904, by go_num, rfl, by go_num, by omega, rfl, Nat.le_refl _, by omega, Lib.hid ⟨HS.out.1, HB.out⟩, rfl⟩
            · have HB := Lib.hid (rcnt_mul HS.out.2 hb)
              have hv2 : ¬ (4611686018427387904 : Int) / ((m : Int) + 1) < (pw : Int) := by rw [hq]; exact fun h => hb (Int.ofNat_lt.1 h)
              have hpm : pw * (m + 1) ≤ 4611686018427387904 := by rw [HB.out]; exact Nat.min_le_right _ _
              have hs4 : (pw : Int) * ((m : Int) + 1) = ((pw * (m + 1) : Nat) : Int) := by simp
              have hw1 : IntKind.i64.wrap ((pw : Int) * ((m : Int) + 1)) = (pw : Int) * ((m : Int) + 1) := i64_in _ (by rw [hs4]; omega)
              have HS4 := Lib.hid hs4
              clear hq HQ hb hs4
              go_wp2
              all_goals first | (exfalso; omega) | skip
              go_roundg (f + 1 - (k + 1))
              case measure => omega
              case rel => exact ⟨k + 1, s + pw, pw * (m + 1), by go_num, by rw [HS4.out], by go_num, by omega, rfl, hpm, by omega, Lib.hid ⟨HS.out.1, HB.out⟩, rfl⟩
        · obtain rfl : k = f + 1 := by omega
          have HN : Hid (cnt (f : Int) (m : Int) = (s : Int)) := Lib.hid (by
            rw [cnt_yes f m HMB.out, ← HI.out.1]
            omega)
          go_wp2
          all_goals first | (exfalso; omega) | skip
          go_ret
          exact ⟨ret_i64 HN.out.symm, Grew.refl _⟩
  · have HN := Lib.hid (cnt_no hc)
    have hd : f < 0 ∨ m < 0 ∨ 1073741824 < m := by omega
    clear hc
    go_enter Tryd.func32, Tryd.ntmps32
    go_wp2
    all_goals first | (exfalso; omega) | skip
    all_goals go_ret
    all_goals exact ⟨ret_i64 HN.out.symm, Grew.refl _⟩
end Go.Proofs.YtapgpdgbdmnkgaaDoor
