/-
  LAYER 8 (capacitor): contracts of the small functions.
-/
import Derived.Test.YtjepjcdobgdacaaCapObj
import Derived.BigRegion
namespace Go.Proofs.Ytjepjcdobgdacaa
open Go Go.RowKit Go.IntWalk
set_option linter.unusedSimpArgs false
set_option maxRecDepth 8000

theorem power_any (p : Int) (w : World) : Calls Try.prog 27 #[.int .i64 p] w fun e w' => e = .returned (.bool (okP p)) ∧ w = w' := by
  unfold okP
  go_enter Try.func27, Try.ntmps27
  go_wp2
  all_goals go_ret
  all_goals simp_all
  all_goals (intros; omega)
theorem ticks_any (t : Int) (w : World) : Calls Try.prog 28 #[.int .i64 t] w fun e w' => e = .returned (.bool (okT t)) ∧ w = w' := by
  unfold okT
  go_enter Try.func28, Try.ntmps28
  go_wp2
  all_goals go_ret
  all_goals simp_all
  all_goals (intros; omega)
theorem supply_any (p t : Int) (w : World) : Calls Try.prog 29 #[.int .i64 p, .int .i64 t] w fun e w' => e = .returned (.bool (okP p && okT t)) ∧ w = w' := by
  unfold okP okT
  go_enter Try.func29, Try.ntmps29
  go_wp2
  all_goals go_ret
  all_goals simp_all
  all_goals (intros; omega)
theorem valid_at (c o f : Int) (w : World) : Calls Try.prog 26 #[cfv c o f] w fun e w' => e = .returned (.bool (okC c o f)) ∧ w' = w.alloc (.cells #[.int .i64 c, .int .i64 o, .int .i64 f] 30) := by
  unfold okC
  go_enter Try.func26, Try.ntmps26
  go_wp2
  all_goals go_ret
  all_goals (refine ⟨?_, rfl⟩; simp_all)
  all_goals (intros; omega)
theorem valid_any (c o f : Int) (w : World) : Calls Try.prog 26 #[cfv c o f] w fun e w' => e = .returned (.bool (okC c o f)) ∧ Grew w w' := (valid_at c o f w).mono fun _ _ h => ⟨h.1, h.2 ▸ (Grew.refl w).al _⟩
theorem rvalid_any (c o f : Int) (w : World) : Calls Try.prog 12 #[cfv c o f] w fun e w' => e = .returned (.bool (okC c o f)) ∧ Grew w w' := by
  have hg := Lib.hid (Below.alloc (Below.refl w.heap.size w) (Nat.le_refl _) (.cells #[.int .i64 c, .int .i64 o, .int .i64 f] 23))
  unfold okC
  go_enter Try.func12, Try.ntmps12
  go_wp2
  all_goals go_ret
  all_goals (refine ⟨?_, hg.out⟩; simp_all)
  all_goals (intros; omega)
theorem config_any (c o f : Int) (w : World) : Calls Try.prog 11 #[cfv c o f] w fun e w' => e = .returned (cfv c o f) ∧ Grew w w' := by
  go_enter Try.func11, Try.ntmps11
  go_wp2
  exact ret_cfg Try.results11 rfl (by simpa using heap_alloc_new (w.alloc (.cells #[.int .i64 c, .int .i64 o, .int .i64 f] 23)) (.cells #[.int .i64 c, .int .i64 o, .int .i64 f] 30)) ⟨rfl, ((Grew.refl w).al _).al _⟩
theorem running_any (b : Nat) (x : Cp) (rest : List Value) (e : TypeId) (w : World) (h : CapB b x rest e w) : Calls Try.prog 20 #[.pointer (some ⟨b, 0, none⟩)] w fun e w' => e = .returned (.bool x.r) ∧ w = w' := by
  have h4 := h.cs.2.2.2.2.1
  clear h
  go_enter Try.func20, Try.ntmps20
  go_wp2
  go_ret
  exact ⟨rfl, rfl⟩
theorem charge_any (b : Nat) (x : Cp) (rest : List Value) (e : TypeId) (w : World) (h : CapB b x rest e w) : Calls Try.prog 19 #[.pointer (some ⟨b, 0, none⟩)] w fun e w' => e = .returned (.int .i64 x.q) ∧ w = w' := by
  have h4 := h.cs.2.2.2.1
  clear h
  go_enter Try.func19, Try.ntmps19
  go_wp2
  go_ret
  exact ⟨rfl, rfl⟩
theorem heap_alloc2 (w : World) (a b c : Obj) : (((w.alloc a).alloc b).alloc c).heap[w.heap.size + 2]? = some c := by
  have := heap_alloc_new ((w.alloc a).alloc b) c
  have hs : ((w.alloc a).alloc b).heap.size = w.heap.size + 2 := by simp
  rwa [hs] at this
theorem new_ok (c o f : Int) (w : World) (hk : okC c o f = true) : Calls Try.prog 10 #[cfv c o f] w fun e w' => ∃ b, e = .returned (.tuple #[.pointer (some ⟨b, 0, none⟩), .int .i64 0]) ∧ CapB b (cp0 c o f) [] 70 w' ∧ Grew w w' ∧ w.heap.size ≤ b := by
  have HV := Lib.hid fun W => hk ▸ valid_at c o f W
  clear hk
  go_enter Try.func10, Try.ntmps10
  go_wp2_with (go_at_call 26; (with_reducible refine (HV.out _).mono ?_); rintro e _ ⟨rfl, rfl⟩)
  go_ret2
  exact ⟨w.heap.size + 2, rfl, heap_alloc2 w _ _ _, (((Grew.refl w).al _).al _).al _, by omega⟩
theorem new_bad (c o f : Int) (w : World) (hk : okC c o f = false) : Calls Try.prog 10 #[cfv c o f] w fun e w' => e = .returned (.tuple #[.pointer none, .int .i64 1]) ∧ Grew w w' := by
  have HV := Lib.hid fun W => hk ▸ valid_at c o f W
  clear hk
  go_enter Try.func10, Try.ntmps10
  go_wp2_with (go_at_call 26; (with_reducible refine (HV.out _).mono ?_); rintro e _ ⟨rfl, rfl⟩)
  go_ret2
  exact ⟨rfl, ((Grew.refl w).al _).al _⟩
theorem guar_any (c o f : Int) (w : World) (hr : -9223372036854775808 ≤ o ∧ o ≤ 9223372036854775807) : Calls Try.prog 25 #[cfv c o f] w fun e w' => e = .returned (.int .i64 (if okC c o f then o - f - 1 else 0)) ∧ Grew w w' := by
  cases hk : okC c o f with
  | true =>
    have HV := Lib.hid fun W => hk ▸ valid_at c o f W
    have h1 : IntKind.i64.wrap (o - f) = o - f := IntWalk.i64_in _ (by have := okC_iff.1 hk; omega)
    have h2 : IntKind.i64.wrap (o - f - 1) = o - f - 1 := IntWalk.i64_in _ (by have := okC_iff.1 hk; omega)
    clear hk
    simp only [if_true]
    go_enter Try.func25, Try.ntmps25
    go_wp2_with (go_at_call 26; (with_reducible refine (HV.out _).mono ?_); rintro e _ ⟨rfl, rfl⟩)
    go_ret
    exact ⟨rfl, ((Grew.refl w).al _).al _⟩
  | false =>
    have HV := Lib.hid fun W => hk ▸ valid_at c o f W
    clear hk
    simp only [Bool.false_eq_true, if_false]
    go_enter Try.func25, Try.ntmps25
    go_wp2_with (go_at_call 26; (with_reducible refine (HV.out _).mono ?_); rintro e _ ⟨rfl, rfl⟩)
    go_ret
    exact ⟨rfl, ((Grew.refl w).al _).al _⟩
theorem draw_any (b : Nat) (x : Cp) (rest : List Value) (e : TypeId) (n : Int) (w : World) (h : CapB b x rest e w) (hi : Inv x) (hn : -9223372036854775808 ≤ n ∧ n ≤ 9223372036854775807) :
    Calls Try.prog 13 #[.pointer (some ⟨b, 0, none⟩), .int .i64 n] w fun e' w' => e' = .returned (.bool (db x n)) ∧ CapB b (dw x n) rest e w' ∧ Chg w w' (fun k => k = b) := by
  obtain ⟨h0, h1, h2, h3, h4, hf⟩ := h.cs
  have hf3 := hf 3
  have hf4 := hf 4
  have HS := Lib.hid h
  have q0 := hi.q0
  have qm : x.q ≤ 1073741824 := Int.le_trans hi.qc hi.cm
  clear h hf hi
  cases hd : dok x n with
  | false =>
    obtain ⟨e1, e2⟩ := dw_no hd
    rw [e1, e2]
    clear e1 e2
    cases hr : x.r with
    | false =>
      rw [hr] at h4
      clear hd hr
      go_enter Try.func13, Try.ntmps13
      go_wp2
      go_ret
      exact ⟨rfl, HS.out, Chg.refl _ _⟩
    | true =>
      rw [hr] at h4
      have hn0 : n < 0 := by simpa [dok, hr] using hd
      clear hd hr
      go_enter Try.func13, Try.ntmps13
      go_wp2
      go_ret
      exact ⟨rfl, HS.out, Chg.refl _ _⟩
  | true =>
    obtain ⟨e1, e2⟩ := dw_yes hd
    rw [e1, e2]
    clear e1 e2
    simp only [dok, Bool.and_eq_true, decide_eq_true_eq] at hd
    obtain ⟨hr, hn0⟩ := hd
    rw [hr] at h4
    clear hr
    have HE := Lib.hid (HS.out.st2d (dq x n) (dr x n))
    have hw : IntKind.i64.wrap (x.q - n) = x.q - n := IntWalk.i64_in _ (by omega)
    by_cases hs : x.q - n < 0
    · have e1 : dq x n = 0 := by unfold dq; omega
      have e2 : dr x n = decide (x.f < 0) := by unfold dr; rw [e1]
      rw [e1, e2] at HE ⊢
      clear e1 e2
      go_enter Try.func13, Try.ntmps13
      go_wp2
      go_region
      go_wp2
      go_ret
      exact ⟨rfl, HE.out⟩
    · have e1 : dq x n = x.q - n := by unfold dq; omega
      have e2 : dr x n = decide (x.f < x.q - n) := by unfold dr; rw [e1]
      have hs : 0 ≤ x.q - n := by omega
      rw [e1, e2] at HE ⊢
      clear e1 e2
      go_enter Try.func13, Try.ntmps13
      go_wp2
      go_region
      go_wp2
      go_ret
      exact ⟨rfl, HE.out⟩
theorem harvest_any (b : Nat) (x : Cp) (rest : List Value) (e : TypeId) (p t : Int) (w : World) (h : CapB b x rest e w) (hi : Inv x) :
    Calls Try.prog 15 #[.pointer (some ⟨b, 0, none⟩), .int .i64 p, .int .i64 t] w fun e' w' => e' = .returned (.int .i64 (he p t)) ∧ CapB b (hv x p t) rest e w' ∧ Chg w w' (fun k => k = b) := by
  obtain ⟨h0, h1, h2, h3, h4, hf⟩ := h.cs
  have hf3 := hf 3
  have hf4 := hf 4
  have HS := Lib.hid h
  have q0 := hi.q0
  have qm : x.q ≤ 1073741824 := Int.le_trans hi.qc hi.cm
  have HI := Lib.hid hi
  clear h hf hi
  have HP := Lib.hid fun W => power_any p W
  have HT := Lib.hid fun W => ticks_any t W
  cases hk : okP p && okT t with
  | false =>
    obtain ⟨e1, e2⟩ := hv_no (x := x) hk
    rw [e1, e2]
    clear e1 e2
    cases hp : okP p with
    | false =>
      rw [hp] at HP
      clear hk hp HT
      go_enter Try.func15, Try.ntmps15
      go_wp2_with (go_at_call 27; (with_reducible refine (HP.out _).mono ?_); rintro e w1 ⟨rfl, rfl⟩)
      go_ret
      exact ⟨rfl, HS.out, Chg.refl _ _⟩
    | true =>
      rw [hp] at HP hk
      have hk : okT t = false := hk
      rw [hk] at HT
      clear hk hp
      go_enter Try.func15, Try.ntmps15
      go_wp2_with (first
        | (go_at_call 27; (with_reducible refine (HP.out _).mono ?_); rintro e w1 ⟨rfl, rfl⟩)
        | (go_at_call 28; (with_reducible refine (HT.out _).mono ?_); rintro e w1 ⟨rfl, rfl⟩))
      go_ret
      exact ⟨rfl, HS.out, Chg.refl _ _⟩
  | true =>
    obtain ⟨e1, e2⟩ := hv_yes (x := x) hk
    rw [e1, e2]
    clear e1 e2
    obtain ⟨hp, ht⟩ := Bool.and_eq_true_iff.1 hk
    obtain ⟨m0, m1⟩ := mul_bound hp ht
    rw [hp] at HP
    rw [ht] at HT
    have HE := Lib.hid (HS.out.st2d (hq x p t) (hr x p t))
    have hw : IntKind.i64.wrap (p * t) = p * t := IntWalk.i64_in _ (by omega)
    have hw2 : IntKind.i64.wrap (x.q + p * t) = x.q + p * t := IntWalk.i64_in _ (by omega)
    clear hk hp ht
    rcases Int.lt_or_le x.c (x.q + p * t) with hs | hs
    rotate_left
    · have e1 : hq x p t = x.q + p * t := by unfold hq; omega
      cases hrr : x.r with
      | true =>
        have e2 : hr x p t = true := by unfold hr; rw [hrr]; rfl
        rw [hrr] at h4
        rw [e1, e2] at HE ⊢
        clear e1 e2 hrr
        go_enter Try.func15, Try.ntmps15
        go_wp2_with (first
          | (go_at_call 27; (with_reducible refine (HP.out _).mono ?_); rintro e w1 ⟨rfl, rfl⟩)
          | (go_at_call 28; (with_reducible refine (HT.out _).mono ?_); rintro e w1 ⟨rfl, rfl⟩))
        go_region
        go_wp2
        go_ret
        exact ⟨rfl, HE.out⟩
      | false =>
        have e2 : hr x p t = decide (x.o ≤ x.q + p * t) := by unfold hr; rw [hrr, e1]; rfl
        rw [hrr] at h4
        rw [e1, e2] at HE ⊢
        clear e1 e2 hrr
        go_enter Try.func15, Try.ntmps15
        go_wp2_with (first
          | (go_at_call 27; (with_reducible refine (HP.out _).mono ?_); rintro e w1 ⟨rfl, rfl⟩)
          | (go_at_call 28; (with_reducible refine (HT.out _).mono ?_); rintro e w1 ⟨rfl, rfl⟩))
        go_region
        go_wp2
        go_ret
        exact ⟨rfl, HE.out⟩
    · have hoc := HI.out.oc
      have e1 : hq x p t = x.c := by unfold hq; omega
      cases hrr : x.r with
      | true =>
        have e2 : hr x p t = true := by unfold hr; rw [hrr]; rfl
        rw [hrr] at h4
        rw [e1, e2] at HE ⊢
        clear e1 e2 hrr
        go_enter Try.func15, Try.ntmps15
        go_wp2_with (first
          | (go_at_call 27; (with_reducible refine (HP.out _).mono ?_); rintro e w1 ⟨rfl, rfl⟩)
          | (go_at_call 28; (with_reducible refine (HT.out _).mono ?_); rintro e w1 ⟨rfl, rfl⟩))
        go_region
        go_wp2
        go_ret
        exact ⟨rfl, HE.out⟩
      | false =>
        have e2 : hr x p t = true := by unfold hr; rw [hrr, e1]; simp [hoc]
        rw [hrr] at h4
        rw [e1, e2] at HE ⊢
        clear e1 e2 hrr
        go_enter Try.func15, Try.ntmps15
        go_wp2_with (first
          | (go_at_call 27; (with_reducible refine (HP.out _).mono ?_); rintro e w1 ⟨rfl, rfl⟩)
          | (go_at_call 28; (with_reducible refine (HT.out _).mono ?_); rintro e w1 ⟨rfl, rfl⟩))
        go_region
        go_wp2
        go_ret
        exact ⟨rfl, HE.out⟩
theorem wait_any (b : Nat) (x : Cp) (rest : List Value) (e : TypeId) (p : Int) (w : World) (h : CapB b x rest e w) (hi : Inv x) (hp : -9223372036854775808 ≤ p ∧ p ≤ 9223372036854775807) :
    Calls Try.prog 17 #[.pointer (some ⟨b, 0, none⟩), .int .i64 p] w fun e' w' => e' = .returned (.tuple #[.int .i64 (wt x p), .bool (wb x p)]) ∧ Grew w w' := by
  obtain ⟨h0, h1, h2, h3, h4, hf⟩ := h.cs
  have q0 := hi.q0
  have qm : x.q ≤ 1073741824 := Int.le_trans hi.qc hi.cm
  have qo := hi.no
  have om : x.o ≤ 1073741824 := Int.le_trans hi.oc hi.cm
  clear h hf hi
  cases hr : x.r with
  | true =>
    rw [hr] at h4
    rw [show wt x p = 0 by simp [wt, hr], show wb x p = true by simp [wb, hr]]
    clear hr qo
    go_enter Try.func17, Try.ntmps17
    go_wp2
    go_ret2
    exact ⟨rfl, Grew.refl _⟩
  | false =>
    rw [hr] at h4
    have qo := qo hr
    cases hk : okW p with
    | false =>
      rw [show wt x p = 0 by simp [wt, hr, hk], show wb x p = false by simp [wb, hr, hk]]
      have hk : p < 1 ∨ 1048576 < p := by
        have : ¬ (1 ≤ p ∧ p ≤ 1048576) := fun h => by rw [okW_iff.2 h] at hk; cases hk
        omega
      clear hr
      rcases hk with hk | hk
      · go_enter Try.func17, Try.ntmps17
        go_wp2
        go_ret2
        exact ⟨rfl, Grew.refl _⟩
      · have hk1 : 1 ≤ p := by omega
        go_enter Try.func17, Try.ntmps17
        go_wp2
        go_ret2
        exact ⟨rfl, Grew.refl _⟩
    | true =>
      rw [show wt x p = (x.o - x.q + p - 1) / p by simp [wt, hr, hk], show wb x p = true by simp [wb, hr, hk]]
      obtain ⟨k1, k2⟩ := okW_iff.1 hk
      clear hr hk
      have hw : IntKind.i64.wrap (x.o - x.q) = x.o - x.q := IntWalk.i64_in _ (by omega)
      have hw2 : IntKind.i64.wrap (x.o - x.q + p) = x.o - x.q + p := IntWalk.i64_in _ (by omega)
      have hw3 : IntKind.i64.wrap (x.o - x.q + p - 1) = x.o - x.q + p - 1 := IntWalk.i64_in _ (by omega)
      go_enter Try.func17, Try.ntmps17
      go_wp2
      go_region
      go_wp2
      go_ret2
      exact ⟨rfl, Grew.drw (Grew.refl _)⟩
end Go.Proofs.Ytjepjcdobgdacaa
