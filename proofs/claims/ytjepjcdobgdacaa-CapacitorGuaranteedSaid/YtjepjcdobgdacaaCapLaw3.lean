/-
  LAYER 8 (capacitor): the statements' Guaranteed.
-/
import Derived.Test.YtjepjcdobgdacaaCapLaw1
import Derived.Test.YtjepjcdobgdacaaCapPlain2
import Derived.Test.YtjepjcdobgdacaaVals
namespace Go.Proofs.Ytjepjcdobgdacaa
open Go Go.RowKit Go.IntWalk
set_option linter.unusedSimpArgs false
set_option maxRecDepth 8000

/-- A number of 16 bits as a value. -/
abbrev u16v (z : Int) : Value := .int .u16 z
abbrev u16Ok (xs : List Int) : Prop := ∀ z ∈ xs, 0 ≤ z ∧ z ≤ 65535
/-- What a round of draws keeps. -/
structure Rg (w0 : World) (b : Nat) (x : Cp) (left : Int) (w : World) : Prop where
  cap : CapB b x [] 70 w
  inv : Inv x
  grew : Grew w0 w
  far : w0.heap.size ≤ b
  on : x.r = true
  left : 0 ≤ left ∧ left ≤ 1073741824 ∧ x.f + 1 + left ≤ x.q
theorem Rg.draw {w0 w w' : World} {b : Nat} {x : Cp} {left n : Int} (h : Rg w0 b x left w) (h0 : 0 ≤ n) (h1 : n ≤ left) (hc : CapB b (dw x n) [] 70 w') (hg : Chg w w' (fun k => k = b)) : Rg w0 b (dw x n) (left - n) w' := by
  obtain ⟨k1, k2, k3⟩ := draw_keep h.on h.inv.f0 h.left.2.2 h0 h1
  have hl := h.left
  exact ⟨hc, h.inv.dw n, grew_lift h.grew hg (newb _ _ h.far), h.far, k2, by omega, by omega, by rw [(dw_c x n).2.2]; exact k3⟩
set_option maxHeartbeats 8000000 in
theorem guaranteed_law (c o f pw : Int) (p : Option Addr) (n cap : Nat) (xs : List Int) (w0 : World) (hl : xs.length = n) (hx : Rd u16v w0 p cap xs) (hok : u16Ok xs) (hpw : 0 ≤ pw ∧ pw ≤ 65535) (ho : -9223372036854775808 ≤ o ∧ o ≤ 9223372036854775807) :
    Calls Try.prog 6 #[cfv c o f, .int .u16 pw, .slice p n cap] w0 fun e w' => e = .returned (.bool true) ∧ Grew w0 w' := by
  subst hl
  have HX := Lib.hid hx
  have HO := Lib.hid hok
  have hcap := hx.cap
  have hmax := hx.max
  clear hx hok
  have HB := Lib.hid (Grew.refl w0)
  have HV : Hid (∀ W : World, Calls Try.prog 12 #[cfv c o f] W fun e w' => e = .returned (.bool (okC c o f)) ∧ Grew W w') := Lib.hid fun W => rvalid_any c o f W
  have HF : Hid (∀ W : World, Calls Try.prog 11 #[cfv c o f] W fun e w' => e = .returned (cfv c o f) ∧ Grew W w') := Lib.hid fun W => config_any c o f W
  have HG : Hid (∀ W : World, Calls Try.prog 25 #[cfv c o f] W fun e w' => e = .returned (.int .i64 (if okC c o f then o - f - 1 else 0)) ∧ Grew W w') := Lib.hid fun W => guar_any c o f W ho
  cases hk : okC c o f with
  | false =>
    rw [hk] at HV HG
    have HNB : Hid (∀ W : World, Calls Try.prog 10 #[cfv c o f] W fun e w' => e = .returned (.tuple #[.pointer none, .int .i64 1]) ∧ Grew W w') := Lib.hid fun W => new_bad c o f W hk
    clear hk
    simp only [Bool.false_eq_true, if_false] at HG
    go_enter Try.func6, Try.ntmps6
    go_wp2_with (first
      | (go_at_call 9; (with_reducible refine (awake_any _).mono ?_); rintro e w1 ⟨rfl, g0⟩; have HQ : Hid (CfB w0.heap.size c o f w1) := Lib.hid (CfB.grew (heap_alloc_new w0 _) g0); obtain ⟨q0, q1, q2, ql⟩ := HQ.out.cs; replace HB := Lib.hid ((HB.out.al _).trans g0); clear g0)
      | (go_at_call 11; (with_reducible refine (HF.out _).mono ?_); rintro e w2 ⟨rfl, g0⟩; replace HQ := Lib.hid (HQ.out.grew g0); clear q0 q1 q2 ql; obtain ⟨q0, q1, q2, ql⟩ := HQ.out.cs; replace HB := Lib.hid (HB.out.trans g0); clear g0)
      | (go_at_call 10; (with_reducible refine (HNB.out _).mono ?_); rintro e w3 ⟨rfl, g0⟩; replace HQ := Lib.hid (HQ.out.grew g0); clear q0 q1 q2 ql; obtain ⟨q0, q1, q2, ql⟩ := HQ.out.cs; replace HB := Lib.hid (HB.out.trans g0); clear g0)
      | (go_at_call 12; (with_reducible refine (HV.out _).mono ?_); rintro e w4 ⟨rfl, g0⟩; replace HQ := Lib.hid (HQ.out.grew g0); clear q0 q1 q2 ql; obtain ⟨q0, q1, q2, ql⟩ := HQ.out.cs; replace HB := Lib.hid (HB.out.trans g0); clear g0)
      | (go_at_call 25; (with_reducible refine (HG.out _).mono ?_); rintro e w5 ⟨rfl, g0⟩; replace HQ := Lib.hid (HQ.out.grew g0); clear q0 q1 q2 ql; obtain ⟨q0, q1, q2, ql⟩ := HQ.out.cs; replace HB := Lib.hid (HB.out.trans g0); clear g0))
    go_ret
    exact ⟨rfl, HB.out⟩
  | true =>
    rw [hk] at HV HG
    simp only [if_true] at HG
    have HN : Hid (∀ W : World, Calls Try.prog 10 #[cfv c o f] W fun e w' => ∃ b, e = .returned (.tuple #[.pointer (some ⟨b, 0, none⟩), .int .i64 0]) ∧ CapB b (cp0 c o f) [] 70 w' ∧ Grew W w' ∧ W.heap.size ≤ b) := Lib.hid fun W => new_ok c o f W hk
    have HI := Lib.hid (inv0 hk)
    obtain ⟨kf, ko, kc, km⟩ := okC_iff.1 hk
    have hw1 : IntKind.i64.wrap (o - f) = o - f := IntWalk.i64_in _ (by omega)
    have hw2 : IntKind.i64.wrap (o - f - 1) = o - f - 1 := IntWalk.i64_in _ (by omega)
    clear hk
    by_cases h0 : pw = 0
    · subst h0
      go_enter Try.func6, Try.ntmps6
      go_wp2_with (first
        | (go_at_call 9; (with_reducible refine (awake_any _).mono ?_); rintro e w1 ⟨rfl, g0⟩; have HQ : Hid (CfB w0.heap.size c o f w1) := Lib.hid (CfB.grew (heap_alloc_new w0 _) g0); obtain ⟨q0, q1, q2, ql⟩ := HQ.out.cs; replace HB := Lib.hid ((HB.out.al _).trans g0); clear g0)
        | (go_at_call 10; (with_reducible refine (HN.out _).mono ?_); rintro e w3 ⟨b, rfl, h1, g0, hb⟩; have HR : Hid (Rs w0 b w0.heap.size c o f (cp0 c o f) w3) := Lib.hid (Rs.made h1 HI.out HB.out HQ.out g0 hb); replace HQ := Lib.hid (HQ.out.grew g0); replace HB := Lib.hid (HB.out.trans g0); clear q0 q1 q2 ql; obtain ⟨q0, q1, q2, ql⟩ := HQ.out.cs; clear g0 h1 hb)
        | (go_at_call 12; (with_reducible refine (HV.out _).mono ?_); rintro e w4 ⟨rfl, g0⟩; replace HR := Lib.hid (HR.out.on g0); replace HQ := Lib.hid HR.out.box; clear q0 q1 q2 ql; obtain ⟨q0, q1, q2, ql⟩ := HQ.out.cs; clear g0)
        | (go_at_call 17; (with_reducible refine (HW.out _ HR.out.cap).mono ?_); rintro e w5 ⟨rfl, g0⟩; replace HR := Lib.hid (HR.out.on g0); replace HQ := Lib.hid HR.out.box; clear q0 q1 q2 ql; obtain ⟨q0, q1, q2, ql⟩ := HQ.out.cs; clear g0)
        | (go_at_call 15; (with_reducible refine (HH.out _ HR.out.cap).mono ?_); rintro e w6 ⟨rfl, h5, c5⟩; have HR5 := Lib.hid (HR.out.harvest h5 c5); clear h5 c5 HR; replace HQ := Lib.hid HR5.out.box; clear q0 q1 q2 ql; obtain ⟨q0, q1, q2, ql⟩ := HQ.out.cs; )
        | (go_at_call 20; (with_reducible refine (HRU.out _ HR5.out.cap).mono ?_); rintro e _ ⟨rfl, rfl⟩; skip)
        | (go_at_call 11; (with_reducible refine (HF.out _).mono ?_); rintro e w7 ⟨rfl, g0⟩; replace HR5 := Lib.hid (HR5.out.on g0); replace HQ := Lib.hid HR5.out.box; clear q0 q1 q2 ql; obtain ⟨q0, q1, q2, ql⟩ := HQ.out.cs; clear g0)
        | (go_at_call 25; (with_reducible refine (HG.out _).mono ?_); rintro e w8 ⟨rfl, g0⟩; replace HR5 := Lib.hid (HR5.out.on g0); replace HQ := Lib.hid HR5.out.box; clear q0 q1 q2 ql; obtain ⟨q0, q1, q2, ql⟩ := HQ.out.cs; clear g0)
        | (go_at_call 11; (with_reducible refine (HF.out _).mono ?_); rintro e w2 ⟨rfl, g0⟩; replace HQ := Lib.hid (HQ.out.grew g0); clear q0 q1 q2 ql; obtain ⟨q0, q1, q2, ql⟩ := HQ.out.cs; replace HB := Lib.hid (HB.out.trans g0); clear g0))
      go_ret
      exact ⟨rfl, HR.out.grew⟩
    · have hp1 : 1 ≤ pw := by omega
      have hp2 : pw ≤ 65535 := hpw.2
      have hpW : okW pw = true := okW_iff.2 (by omega)
      have hkey := wait_key HI.out rfl hpW
      have hrun := wait_runs HI.out rfl hpW
      obtain ⟨t, ht⟩ : ∃ t, t = wt (cp0 c o f) pw := ⟨_, rfl⟩
      rw [← ht] at hkey hrun
      have HW : Hid (∀ (W : World) {b : Nat}, CapB b (cp0 c o f) [] 70 W → Calls Try.prog 17 #[.pointer (some ⟨b, 0, none⟩), .int .i64 pw] W fun e w' => e = .returned (.tuple #[.int .i64 t, .bool true]) ∧ Grew W w') := Lib.hid fun W b hb => by
        have := wait_any b _ [] _ pw W hb HI.out (by omega)
        rwa [← ht, show wb (cp0 c o f) pw = true by simp [wb, hpW]] at this
      have HH : Hid (∀ (W : World) {b : Nat}, CapB b (cp0 c o f) [] 70 W → Calls Try.prog 15 #[.pointer (some ⟨b, 0, none⟩), .int .i64 pw, .int .i64 t] W fun e w' => e = .returned (.int .i64 0) ∧ CapB b (hv (cp0 c o f) pw t) [] 70 w' ∧ Chg W w' (fun k => k = b)) := Lib.hid fun W b hb => by
        have := harvest_any b _ [] _ pw t W hb HI.out
        rwa [he_ok (okP_of_okW hpW) (okT_iff.2 (by omega))] at this
      have HRU : Hid (∀ (W : World) {b : Nat}, CapB b (hv (cp0 c o f) pw t) [] 70 W → Calls Try.prog 20 #[.pointer (some ⟨b, 0, none⟩)] W fun e w' => e = .returned (.bool true) ∧ W = w') := Lib.hid fun W b hb => by
        have := running_any b _ [] _ W hb
        rwa [hrun.1] at this
      have HRUN := Lib.hid hrun
      clear hpW hkey hrun ht h0 hpw
      go_enter Try.func6, Try.ntmps6
      go_wp2_with (first
        | (go_at_call 9; (with_reducible refine (awake_any _).mono ?_); rintro e w1 ⟨rfl, g0⟩; have HQ : Hid (CfB w0.heap.size c o f w1) := Lib.hid (CfB.grew (heap_alloc_new w0 _) g0); obtain ⟨q0, q1, q2, ql⟩ := HQ.out.cs; replace HB := Lib.hid ((HB.out.al _).trans g0); clear g0)
        | (go_at_call 10; (with_reducible refine (HN.out _).mono ?_); rintro e w3 ⟨b, rfl, h1, g0, hb⟩; have HR : Hid (Rs w0 b w0.heap.size c o f (cp0 c o f) w3) := Lib.hid (Rs.made h1 HI.out HB.out HQ.out g0 hb); replace HQ := Lib.hid (HQ.out.grew g0); replace HB := Lib.hid (HB.out.trans g0); clear q0 q1 q2 ql; obtain ⟨q0, q1, q2, ql⟩ := HQ.out.cs; clear g0 h1 hb)
        | (go_at_call 12; (with_reducible refine (HV.out _).mono ?_); rintro e w4 ⟨rfl, g0⟩; replace HR := Lib.hid (HR.out.on g0); replace HQ := Lib.hid HR.out.box; clear q0 q1 q2 ql; obtain ⟨q0, q1, q2, ql⟩ := HQ.out.cs; clear g0)
        | (go_at_call 17; (with_reducible refine (HW.out _ HR.out.cap).mono ?_); rintro e w5 ⟨rfl, g0⟩; replace HR := Lib.hid (HR.out.on g0); replace HQ := Lib.hid HR.out.box; clear q0 q1 q2 ql; obtain ⟨q0, q1, q2, ql⟩ := HQ.out.cs; clear g0)
        | (go_at_call 15; (with_reducible refine (HH.out _ HR.out.cap).mono ?_); rintro e w6 ⟨rfl, h5, c5⟩; have HR5 := Lib.hid (HR.out.harvest h5 c5); clear h5 c5 HR; replace HQ := Lib.hid HR5.out.box; clear q0 q1 q2 ql; obtain ⟨q0, q1, q2, ql⟩ := HQ.out.cs; )
        | (go_at_call 20; (with_reducible refine (HRU.out _ HR5.out.cap).mono ?_); rintro e _ ⟨rfl, rfl⟩; skip)
        | (go_at_call 11; (with_reducible refine (HF.out _).mono ?_); rintro e w7 ⟨rfl, g0⟩; replace HR5 := Lib.hid (HR5.out.on g0); replace HQ := Lib.hid HR5.out.box; clear q0 q1 q2 ql; obtain ⟨q0, q1, q2, ql⟩ := HQ.out.cs; clear g0)
        | (go_at_call 25; (with_reducible refine (HG.out _).mono ?_); rintro e w8 ⟨rfl, g0⟩; replace HR5 := Lib.hid (HR5.out.on g0); replace HQ := Lib.hid HR5.out.box; clear q0 q1 q2 ql; obtain ⟨q0, q1, q2, ql⟩ := HQ.out.cs; clear g0)
        | (go_at_call 11; (with_reducible refine (HF.out _).mono ?_); rintro e w2 ⟨rfl, g0⟩; replace HQ := Lib.hid (HQ.out.grew g0); clear q0 q1 q2 ql; obtain ⟨q0, q1, q2, ql⟩ := HQ.out.cs; replace HB := Lib.hid (HB.out.trans g0); clear g0))
      · go_ret
        exact ⟨rfl, HR.out.grew⟩
      have HR0 : Hid (Rg w0 b (hv (cp0 c o f) pw t) (o - f - 1) w8) := Lib.hid ⟨HR5.out.cap, HR5.out.inv, HR5.out.grew, HR5.out.far, HRUN.out.1, by omega, by omega, by
        have h1 : o ≤ (hv (cp0 c o f) pw t).q := HRUN.out.2
        rw [(hv_c (cp0 c o f) pw t).2.2]
        show f + 1 + (o - f - 1) ≤ _
        omega⟩
      clear HR5 HQ q0 q1 q2 ql HRUN HRU HH HW HI HV HF HG HN HB hw1 hw2
      go_loopg [11, 85] xs.length (fun gg lv iv wr => ∃ (k : Nat) (x : Cp) (left : Int), lv = .int .i64 left ∧ iv = .int .i64 (k : Int) ∧ k ≤ xs.length ∧ gg = xs.length - k ∧ 0 ≤ left ∧ left ≤ 1073741824 ∧ Hid (Rg w0 b x left wr))
      case atStart => exact ⟨0, _, o - f - 1, rfl, rfl, Nat.zero_le _, rfl, by omega, by omega, HR0⟩
      clear HR0
      case round =>
        obtain ⟨k, x, left, rfl, rfl, hk, rfl, l0, l1, HR⟩ := hrel
        by_cases hlt : k < xs.length
        · rcases (HX.out.kept HR.out.grew).parts with h0 | ⟨_, b', o', rfl⟩
          · rw [h0] at hlt
            cases hlt
          have d0 := (HX.out.kept HR.out.grew).cell k xs[k] (by simp [hlt])
          have hlb : b' < wr.heap.size := World.block_lt_of_cell? _ _ d0
          have HLT := Lib.hid (Nat.succ_le_of_lt hlt)
          obtain ⟨z0, z1⟩ := HO.out xs[k] (List.getElem_mem hlt)
          generalize xs[k] = z at d0 z0 z1
          by_cases hz : z ≤ left
          · have hw : IntKind.i64.wrap (left - z) = left - z := IntWalk.i64_in _ (by omega)
            obtain ⟨k1, k2, _⟩ := draw_keep HR.out.on HR.out.inv.f0 HR.out.left.2.2 z0 hz
            have HD : Hid (Calls Try.prog 13 #[.pointer (some ⟨b, 0, none⟩), .int .i64 z] wr fun e w' => e = .returned (.bool true) ∧ CapB b (dw x z) [] 70 w' ∧ Chg wr w' (fun k => k = b)) := Lib.hid (by
              have := draw_any b x [] _ z wr HR.out.cap HR.out.inv (by omega)
              rwa [k1] at this)
            have HRU9 : Hid (∀ (W : World) {b : Nat}, CapB b (dw x z) [] 70 W → Calls Try.prog 20 #[.pointer (some ⟨b, 0, none⟩)] W fun e w' => e = .returned (.bool true) ∧ W = w') := Lib.hid fun W b hb => by
              have := running_any b _ [] _ W hb
              rwa [k2] at this
            clear k1 k2
            go_wp2_with (first
              | (go_at_call 13; (with_reducible refine (HD.out).mono ?_); rintro e w9 ⟨rfl, h5, c5⟩; have HR9 := Lib.hid (HR.out.draw z0 hz h5 c5); clear h5 c5)
              | (go_at_call 20; (with_reducible refine (HRU9.out _ HR9.out.cap).mono ?_); rintro e _ ⟨rfl, rfl⟩; skip))
            go_roundg (xs.length - (k + 1))
            case measure => have := HLT.out; omega
            case rel => exact ⟨k + 1, dw x z, left - z, rfl, by go_num, HLT.out, rfl, by omega, by omega, HR9⟩
          · have hz : left < z := by omega
            go_wp2
            go_ret
            exact ⟨rfl, HR.out.grew⟩
        · obtain rfl : k = xs.length := by omega
          go_wp2
          go_ret
          exact ⟨rfl, HR.out.grew⟩
end Go.Proofs.Ytjepjcdobgdacaa
