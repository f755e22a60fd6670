/-
  LAYER 8 (capacitor): contracts of the reference's Harvest, Draw, WaitTime.
-/
import Derived.Test.YtjepjcdobgdacaaCapWalks
namespace Go.Proofs.Ytjepjcdobgdacaa
open Go Go.RowKit Go.IntWalk
set_option linter.unusedSimpArgs false
set_option maxRecDepth 8000

theorem rwait_any (x : Cp) (p : Int) (w : World) (hi : Inv x) (hp : -9223372036854775808 ≤ p ∧ p ≤ 9223372036854775807) :
    Calls Try.prog 18 #[cpv x, .int .i64 p] w fun e' w' => e' = .returned (.tuple #[.int .i64 (wt x p), .bool (wb x p)]) ∧ Grew w w' := by
  have q0 := hi.q0
  have qm : x.q ≤ 1073741824 := Int.le_trans hi.qc hi.cm
  have qo := hi.no
  have om : x.o ≤ 1073741824 := Int.le_trans hi.oc hi.cm
  clear hi
  cases hr : x.r with
  | true =>
    rw [show wt x p = 0 by simp [wt, hr], show wb x p = true by simp [wb, hr], show cpv x = .agg #[.int .i64 x.c, .int .i64 x.o, .int .i64 x.f, .int .i64 x.q, .bool true] by rw [← hr]]
    clear hr qo
    go_enter Try.func18, Try.ntmps18
    go_wp2
    go_ret2
    exact ⟨rfl, (Grew.refl w).al _⟩
  | false =>
    have qo := qo hr
    cases hk : okW p with
    | false =>
      rw [show wt x p = 0 by simp [wt, hr, hk], show wb x p = false by simp [wb, hr, hk], show cpv x = .agg #[.int .i64 x.c, .int .i64 x.o, .int .i64 x.f, .int .i64 x.q, .bool false] by rw [← hr]]
      have hk : p < 1 ∨ 1048576 < p := by
        have : ¬ (1 ≤ p ∧ p ≤ 1048576) := fun h => by rw [okW_iff.2 h] at hk; cases hk
        omega
      clear hr
      rcases hk with hk | hk
      · go_enter Try.func18, Try.ntmps18
        go_wp2
        go_ret2
        exact ⟨rfl, (Grew.refl w).al _⟩
      · have hk1 : 1 ≤ p := by omega
        go_enter Try.func18, Try.ntmps18
        go_wp2
        go_ret2
        exact ⟨rfl, (Grew.refl w).al _⟩
    | true =>
      rw [show wt x p = (x.o - x.q + p - 1) / p by simp [wt, hr, hk], show wb x p = true by simp [wb, hr, hk], show cpv x = .agg #[.int .i64 x.c, .int .i64 x.o, .int .i64 x.f, .int .i64 x.q, .bool false] by rw [← hr]]
      obtain ⟨k1, k2⟩ := okW_iff.1 hk
      clear hr hk
      obtain ⟨m, hm⟩ : ∃ m, m = x.o - x.q := ⟨_, rfl⟩
      have m1 : 1 ≤ m := by omega
      have m2 : m ≤ 1073741824 := by omega
      have hw : IntKind.i64.wrap (x.o - x.q) = m := by rw [← hm]; exact IntWalk.i64_in _ (by omega)
      rw [← hm]
      clear hm
      obtain ⟨d, hd⟩ : ∃ d, d = m / p := ⟨_, rfl⟩
      have hdm : d * p ≤ m ∧ m < d * p + p := by
        have h1 := Int.emod_add_mul_ediv m p
        have h2 := Int.emod_nonneg m (show p ≠ 0 by omega)
        have h3 := Int.emod_lt_of_pos m (show 0 < p by omega)
        rw [← hd, Int.mul_comm p d] at h1
        omega
      have hd0 : 0 ≤ d := hd ▸ Int.ediv_nonneg (by omega) (by omega)
      have hd1 : d ≤ 1073741824 := by
        have : d * 1 ≤ d * p := Int.mul_le_mul_of_nonneg_left k1 hd0
        omega
      have hw2 : IntKind.i64.wrap (d * p) = d * p := IntWalk.i64_in _ (by have := Int.mul_nonneg hd0 (show 0 ≤ p by omega); omega)
      have hw3 : IntKind.i64.wrap (d + 1) = d + 1 := IntWalk.i64_in _ (by omega)
      have hdd : m / p = d := hd.symm
      clear hd
      rcases Int.lt_or_le (d * p) m with hs | hs
      · have hE : (m + p - 1) / p = d + 1 := by
          rw [show m + p - 1 = (m - 1 - d * p) + p * (d + 1) by rw [Int.mul_add, Int.mul_comm p d]; omega, Int.add_mul_ediv_left _ _ (by omega), Int.ediv_eq_zero_of_lt (by omega) (by omega), Int.zero_add]
        rw [hE]
        clear hE
        have HD := Lib.hid hdm
        clear hdm
        go_enter Try.func18, Try.ntmps18
        go_wp2
        go_ret2
        exact ⟨rfl, (Grew.refl w).al _⟩
      · have hE : (m + p - 1) / p = d := by
          rw [show m + p - 1 = (p - 1) + p * d by rw [Int.mul_comm p d]; omega, Int.add_mul_ediv_left _ _ (by omega), Int.ediv_eq_zero_of_lt (by omega) (by omega), Int.zero_add]
        rw [hE]
        clear hE
        have HD := Lib.hid hdm
        clear hdm
        go_enter Try.func18, Try.ntmps18
        go_wp2
        go_ret2
        refine ⟨?_, (Grew.refl w).al _⟩
        rw [← hdd]
        rfl
theorem heap_alloc_mid (w : World) (a b : Obj) : ((w.alloc a).alloc b).heap[w.heap.size + 1]? = some b := by
  have := heap_alloc_new (w.alloc a) b
  have hs : (w.alloc a).heap.size = w.heap.size + 1 := by simp
  rwa [hs] at this
theorem rharvest_any (x : Cp) (p t : Int) (w : World) (hi : Inv x) :
    Calls Try.prog 16 #[cpv x, .int .i64 p, .int .i64 t] w fun e' w' => e' = .returned (.tuple #[cpv (hv x p t), .int .i64 (he p t)]) ∧ Grew w w' := by
  have q0 := hi.q0
  have qm : x.q ≤ 1073741824 := Int.le_trans hi.qc hi.cm
  have hoc := hi.oc
  clear hi
  have HS := Lib.hid fun W => supply_any p t W
  cases hk : okP p && okT t with
  | false =>
    obtain ⟨e1, e2⟩ := hv_no (x := x) hk
    rw [e1, e2]
    rw [hk] at HS
    clear e1 e2 hk
    go_enter Try.func16, Try.ntmps16
    go_wp2_with (go_at_call 29; (with_reducible refine (HS.out _).mono ?_); rintro e w1 ⟨rfl, rfl⟩)
    exact ret_cp Try.results16 rfl rfl (heap_alloc_mid w _ _) ⟨rfl, ((Grew.refl w).al _).al _⟩
  | true =>
    obtain ⟨e1, e2⟩ := hv_yes (x := x) hk
    rw [e1, e2]
    rw [hk] at HS
    clear e1 e2
    obtain ⟨hp, ht⟩ := Bool.and_eq_true_iff.1 hk
    obtain ⟨m0, m1⟩ := mul_bound hp ht
    have hw : IntKind.i64.wrap (p * t) = p * t := IntWalk.i64_in _ (by omega)
    have hw2 : IntKind.i64.wrap (x.q + p * t) = x.q + p * t := IntWalk.i64_in _ (by omega)
    clear hk hp ht
    obtain ⟨z, hz⟩ : ∃ z, z = hq x p t := ⟨_, rfl⟩
    rcases Int.lt_or_le (x.q + p * t) x.c with hs | hs
    · have e1 : hq x p t = x.q + p * t := by unfold hq; omega
      cases hrr : x.r with
      | true =>
        have e2 : hr x p t = true := by unfold hr; rw [hrr]; rfl
        rw [e1, e2, show cpv x = .agg #[.int .i64 x.c, .int .i64 x.o, .int .i64 x.f, .int .i64 x.q, .bool true] by rw [← hrr]]
        clear e1 e2 hrr hz
        go_enter Try.func16, Try.ntmps16
        go_wp2_with (go_at_call 29; (with_reducible refine (HS.out _).mono ?_); rintro e w1 ⟨rfl, rfl⟩)
        exact ret_cp (x := ⟨x.c, x.o, x.f, x.q + p * t, true⟩) Try.results16 rfl rfl (heap_alloc_mid w _ _) ⟨rfl, ((Grew.refl w).al _).al _⟩
      | false =>
        have e2 : hr x p t = decide (x.o ≤ x.q + p * t) := by unfold hr; rw [hrr, e1]; rfl
        rw [e1, e2, show cpv x = .agg #[.int .i64 x.c, .int .i64 x.o, .int .i64 x.f, .int .i64 x.q, .bool false] by rw [← hrr]]
        clear e1 e2 hrr hz
        go_enter Try.func16, Try.ntmps16
        go_wp2_with (go_at_call 29; (with_reducible refine (HS.out _).mono ?_); rintro e w1 ⟨rfl, rfl⟩)
        exact ret_cp (x := ⟨x.c, x.o, x.f, x.q + p * t, decide (x.o ≤ x.q + p * t)⟩) Try.results16 rfl rfl (heap_alloc_mid w _ _) ⟨rfl, ((Grew.refl w).al _).al _⟩
    · have e1 : hq x p t = x.c := by unfold hq; omega
      have e2 : hr x p t = true := by unfold hr; rw [e1]; simp [hoc]
      rw [e1, e2]
      clear e1 e2 hz
      cases hrr : x.r with
      | true =>
        rw [show cpv x = .agg #[.int .i64 x.c, .int .i64 x.o, .int .i64 x.f, .int .i64 x.q, .bool true] by rw [← hrr]]
        clear hrr
        go_enter Try.func16, Try.ntmps16
        go_wp2_with (go_at_call 29; (with_reducible refine (HS.out _).mono ?_); rintro e w1 ⟨rfl, rfl⟩)
        exact ret_cp (x := ⟨x.c, x.o, x.f, x.c, true⟩) Try.results16 rfl rfl (heap_alloc_mid w _ _) ⟨rfl, ((Grew.refl w).al _).al _⟩
      | false =>
        rw [show cpv x = .agg #[.int .i64 x.c, .int .i64 x.o, .int .i64 x.f, .int .i64 x.q, .bool false] by rw [← hrr]]
        clear hrr
        go_enter Try.func16, Try.ntmps16
        go_wp2_with (go_at_call 29; (with_reducible refine (HS.out _).mono ?_); rintro e w1 ⟨rfl, rfl⟩)
        exact ret_cp (x := ⟨x.c, x.o, x.f, x.c, true⟩) Try.results16 rfl rfl (heap_alloc_mid w _ _) ⟨rfl, ((Grew.refl w).al _).al _⟩
theorem rdraw_any (x : Cp) (n : Int) (w : World) (hi : Inv x) (hn : -9223372036854775808 ≤ n ∧ n ≤ 9223372036854775807) :
    Calls Try.prog 14 #[cpv x, .int .i64 n] w fun e' w' => e' = .returned (.tuple #[cpv (dw x n), .bool (db x n)]) ∧ Grew w w' := by
  have q0 := hi.q0
  have qm : x.q ≤ 1073741824 := Int.le_trans hi.qc hi.cm
  clear hi
  cases hd : dok x n with
  | false =>
    obtain ⟨e1, e2⟩ := dw_no hd
    rw [e1, e2]
    clear e1 e2
    cases hr : x.r with
    | false =>
      rw [show cpv x = .agg #[.int .i64 x.c, .int .i64 x.o, .int .i64 x.f, .int .i64 x.q, .bool false] by rw [← hr]]
      clear hd
      go_enter Try.func14, Try.ntmps14
      go_wp2
      exact ret_cp (x := ⟨x.c, x.o, x.f, x.q, false⟩) Try.results14 rfl rfl (heap_alloc_mid w _ _) ⟨rfl, ((Grew.refl w).al _).al _⟩
    | true =>
      have hn0 : n < 0 := by simpa [dok, hr] using hd
      rw [show cpv x = .agg #[.int .i64 x.c, .int .i64 x.o, .int .i64 x.f, .int .i64 x.q, .bool true] by rw [← hr]]
      clear hd hr
      go_enter Try.func14, Try.ntmps14
      go_wp2
      exact ret_cp (x := ⟨x.c, x.o, x.f, x.q, true⟩) Try.results14 rfl rfl (heap_alloc_mid w _ _) ⟨rfl, ((Grew.refl w).al _).al _⟩
  | true =>
    obtain ⟨e1, e2⟩ := dw_yes hd
    rw [e1, e2]
    clear e1 e2
    simp only [dok, Bool.and_eq_true, decide_eq_true_eq] at hd
    obtain ⟨hr, hn0⟩ := hd
    rw [show cpv x = .agg #[.int .i64 x.c, .int .i64 x.o, .int .i64 x.f, .int .i64 x.q, .bool true] by rw [← hr]]
    clear hr
    rcases Int.lt_or_le x.q n with hs | hs
    · have e1 : dq x n = 0 := by unfold dq; omega
      have e2 : dr x n = decide (x.f < 0) := by unfold dr; rw [e1]
      rw [e1, e2]
      clear e1 e2
      have hw : IntKind.i64.wrap (x.q - x.q) = 0 := by rw [Int.sub_self]; rfl
      go_enter Try.func14, Try.ntmps14
      go_wp2
      go_region
      go_wp2
      exact ret_cp (x := ⟨x.c, x.o, x.f, 0, decide (x.f < 0)⟩) Try.results14 rfl rfl (heap_alloc_mid w _ _) ⟨rfl, (((Grew.refl w).al _).al _).drw⟩
    · have e1 : dq x n = x.q - n := by unfold dq; omega
      have e2 : dr x n = decide (x.f < x.q - n) := by unfold dr; rw [e1]
      rw [e1, e2]
      clear e1 e2
      have hw : IntKind.i64.wrap (x.q - n) = x.q - n := IntWalk.i64_in _ (by omega)
      go_enter Try.func14, Try.ntmps14
      go_wp2
      go_region
      go_wp2
      exact ret_cp (x := ⟨x.c, x.o, x.f, x.q - n, decide (x.f < x.q - n)⟩) Try.results14 rfl rfl (heap_alloc_mid w _ _) ⟨rfl, (((Grew.refl w).al _).al _).drw⟩
end Go.Proofs.Ytjepjcdobgdacaa
