/-
  CONTRACTS OF LAYER 14 (diag): limits; the reference's lines and columns; its numbers.
-/
import Derived.Test.YtmnncildkomagaaDoorProg
import Derived.Test.YtmnncildkomagaaDoorDiPlain2
import Derived.Test.YtmnncildkomagaaDoorRow
import Derived.Test.YtmnncildkomagaaDoorOps
import Derived.Test.YtmnncildkomagaaDoorStr
import Derived.Test.YtmnncildkomagaaDoorBlk
import Derived.LoopTactic
import Derived.Deep.LoopGhost
import Derived.Deep.RegionWith
namespace Go.Proofs.YtmnncildkomagaaDoor
open Go Go.RowKit Go.IntWalk
open Go.Lib (itoa)
set_option linter.unusedSimpArgs false
set_option linter.unusedVariables false
set_option maxRecDepth 8000

theorem size_list (s : ByteArray) : s.data.toList.length = s.size := Array.length_toList
theorem get_list (s : ByteArray) (k : Nat) (h : k < s.size) : s.data.toList[k]? = some s[k] := by
  rw [List.getElem?_eq_getElem (by rw [size_list]; exact h)]
  rfl
theorem get_lf (s : ByteArray) (k : Nat) (h : k < s.size) : s.data.toList[k]? = some 10 ↔ (s[k].toNat : Int) = 10 := by
  rw [get_list s k h]
  constructor
  · intro e
    rw [Option.some.inj e]
    rfl
  · intro e
    have : s[k] = 10 := UInt8.toNat_inj.1 (by simpa using (by omega : s[k].toNat = 10))
    rw [this]
theorem clamp_any (s : ByteArray) (p : Int) (w : World) : Calls Tryd.prog 30 #[.string s, .int .i64 p] w fun e w' => e = .returned (.int .i64 (clp s.size p : Nat)) ∧ w = w' := by
  have H := Lib.hid (clp_int s.size p)
  by_cases h1 : p < 0
  · have H1 := Lib.hid (show (clp s.size p : Int) = 0 by rw [H.out, if_pos h1])
    go_enter Tryd.func30, Tryd.ntmps30
    go_wp2
    go_ret
    exact ⟨ret_i64 H1.out.symm, rfl⟩
  · by_cases h2 : (s.size : Int) < p
    · have H1 := Lib.hid (show (clp s.size p : Int) = s.size by rw [H.out, if_neg h1, if_pos h2])
      go_enter Tryd.func30, Tryd.ntmps30
      go_wp2
      go_ret
      exact ⟨ret_i64 H1.out.symm, rfl⟩
    · have H1 := Lib.hid (show (clp s.size p : Int) = p by rw [H.out, if_neg h1, if_neg h2])
      go_enter Tryd.func30, Tryd.ntmps30
      go_wp2
      go_ret
      exact ⟨ret_i64 H1.out.symm, rfl⟩
theorem within_any (s : ByteArray) (p : Int) (w : World) : Calls Tryd.prog 28 #[.string s, .int .i64 p] w fun e w' => e = .returned (.int .i64 (clp s.size p : Nat)) ∧ w = w' := by
  have H := Lib.hid (clp_int s.size p)
  by_cases h1 : p < 0
  · have H1 := Lib.hid (show (clp s.size p : Int) = 0 by rw [H.out, if_pos h1])
    go_enter Tryd.func28, Tryd.ntmps28
    go_wp2
    go_ret
    exact ⟨ret_i64 (by rw [H1.out]), rfl⟩
  · by_cases h2 : (s.size : Int) < p
    · have H1 := Lib.hid (show (clp s.size p : Int) = s.size by rw [H.out, if_neg h1, if_pos h2])
      go_enter Tryd.func28, Tryd.ntmps28
      go_wp2
      go_ret
      exact ⟨ret_i64 (by rw [H1.out]), rfl⟩
    · have H1 := Lib.hid (show (clp s.size p : Int) = p by rw [H.out, if_neg h1, if_neg h2])
      go_enter Tryd.func28, Tryd.ntmps28
      go_wp2
      go_ret
      exact ⟨ret_i64 (by rw [H1.out]), rfl⟩
theorem blank_any (b : UInt8) (w : World) : Calls Tryd.prog 44 #[.int .u8 (b.toNat : Nat)] w fun e w' => e = .returned (.int .u8 ((blank b).toNat : Nat)) ∧ w = w' := by
  by_cases h : (b.toNat : Int) = 9
  · have hb : b = 9 := UInt8.toNat_inj.1 (by simpa using (by omega : b.toNat = 9))
    subst hb
    go_enter Tryd.func44, Tryd.ntmps44
    go_wp2
    go_ret
    exact ⟨rfl, rfl⟩
  · have hb : blank b = 32 := if_neg fun e => h (by rw [e]; rfl)
    rw [hb]
    go_enter Tryd.func44, Tryd.ntmps44
    go_wp2
    go_ret
    exact ⟨rfl, rfl⟩
set_option maxHeartbeats 2000000 in
theorem rpos_any (s : ByteArray) (hs : s.size ≤ 100000) (p : Int) (w : World) :
    Calls Tryd.prog 13 #[.string s, .int .i64 p] w fun e w' => e = .returned (.tuple #[.int .i64 (lin s.data.toList (clp s.size p) : Nat), .int .i64 (col s.data.toList (clp s.size p) : Nat)]) ∧ w = w' := by
  obtain ⟨q, hq⟩ : ∃ q, clp s.size p = q := ⟨_, rfl⟩
  have hle := clp_le s.size p
  have HC := Lib.hid (fun W => clamp_any s p W)
  rw [hq] at HC hle ⊢
  clear hq
  go_enter Tryd.func13, Tryd.ntmps13
  go_wp2
  go_loopg [6, 7, 8] q (fun gg lv cv iv wr => ∃ (k a b : Nat), lv = .int .i64 (a : Int) ∧ cv = .int .i64 (b : Int) ∧ iv = .int .i64 (k : Int) ∧ k ≤ q ∧ gg = q - k ∧ a ≤ k + 1 ∧ b ≤ k + 1 ∧ Hid (a = lin s.data.toList k ∧ b = col s.data.toList k) ∧ wr = w)
  case atStart => exact ⟨0, 1, 1, rfl, rfl, rfl, Nat.zero_le _, rfl, Nat.le_refl _, Nat.le_refl _, Lib.hid ⟨rfl, rfl⟩, rfl⟩
  case round =>
    obtain ⟨k, a, b, rfl, rfl, rfl, hk, rfl, ha, hb, HV, rfl⟩ := hrel
    by_cases hlt : k < q
    · have hks : k < s.size := by omega
      have G := Lib.hid (get_lf s k hks)
      by_cases hc : (s[k].toNat : Int) = 10
      · have HN : Hid (a + 1 = lin s.data.toList (k + 1) ∧ 1 = col s.data.toList (k + 1)) := Lib.hid (by
          have h1 := G.out.2 hc
          unfold col
          rw [lin_lf h1, lst_lf h1, HV.out.1]
          exact ⟨rfl, by omega⟩)
        go_wp2_with (go_at_call 30; (with_reducible refine (HC.out _).mono ?_); rintro e w1 ⟨rfl, rfl⟩)
        go_roundg (q - (k + 1))
        case measure => omega
        case rel => exact ⟨k + 1, a + 1, 1, (by go_num), rfl, (by go_num), hlt, rfl, by omega, by omega, HN, rfl⟩
      · have HN : Hid (a = lin s.data.toList (k + 1) ∧ b + 1 = col s.data.toList (k + 1)) := Lib.hid (by
          have h1 : s.data.toList[k]? ≠ some 10 := fun h => hc (G.out.1 h)
          have h2 := HV.out.2
          have h3 := lst_le s.data.toList k
          unfold col at h2 ⊢
          rw [lin_no h1, lst_no h1]
          exact ⟨HV.out.1, by omega⟩)
        go_wp2_with (go_at_call 30; (with_reducible refine (HC.out _).mono ?_); rintro e w1 ⟨rfl, rfl⟩)
        go_roundg (q - (k + 1))
        case measure => omega
        case rel => exact ⟨k + 1, a, b + 1, rfl, (by go_num), (by go_num), hlt, rfl, by omega, by omega, HN, rfl⟩
    · obtain rfl : k = q := by omega
      go_wp2_with (go_at_call 30; (with_reducible refine (HC.out _).mono ?_); rintro e w1 ⟨rfl, rfl⟩)
      obtain ⟨rfl, rfl⟩ := HV.out
      refine bodyPost_ret (v := .tuple #[.int .i64 (lin s.data.toList k : Nat), .int .i64 (col s.data.toList k : Nat)]) (by simp [results, Tryd.results13, go_sem]) rfl ?_
      exact ⟨rfl, rfl⟩
set_option maxHeartbeats 2000000 in
theorem rlines_any (s : ByteArray) (hs : s.size ≤ 100000) (w : World) :
    Calls Tryd.prog 15 #[.string s] w fun e w' => e = .returned (.int .i64 (lin s.data.toList s.size : Nat)) ∧ w = w' := by
  obtain ⟨q, hq⟩ : ∃ q, s.size = q := ⟨_, rfl⟩
  have hq' := Lib.hid hq
  go_enter Tryd.func15, Tryd.ntmps15
  go_wp2
  go_loopg [3, 4] s.size (fun gg lv iv wr => ∃ (k a : Nat), lv = .int .i64 (a : Int) ∧ iv = .int .i64 (k : Int) ∧ k ≤ s.size ∧ gg = s.size - k ∧ a ≤ k + 1 ∧ Hid (a = lin s.data.toList k) ∧ wr = w)
  case atStart => exact ⟨0, 1, rfl, rfl, Nat.zero_le _, rfl, Nat.le_refl _, Lib.hid rfl, rfl⟩
  case round =>
    obtain ⟨k, a, rfl, rfl, hk, rfl, ha, HV, rfl⟩ := hrel
    by_cases hlt : k < s.size
    · have G := Lib.hid (get_lf s k hlt)
      by_cases hc : (s[k].toNat : Int) = 10
      · have HN : Hid (a + 1 = lin s.data.toList (k + 1)) := Lib.hid (by rw [lin_lf (G.out.2 hc), HV.out])
        go_wp2
        go_roundg (s.size - (k + 1))
        case measure => omega
        case rel => exact ⟨k + 1, a + 1, (by go_num), (by go_num), hlt, rfl, by omega, HN, rfl⟩
      · have HN : Hid (a = lin s.data.toList (k + 1)) := Lib.hid (by rw [lin_no fun h => hc (G.out.1 h), HV.out])
        go_wp2
        go_roundg (s.size - (k + 1))
        case measure => omega
        case rel => exact ⟨k + 1, a, rfl, (by go_num), hlt, rfl, by omega, HN, rfl⟩
    · obtain rfl : k = s.size := by omega
      go_wp2
      go_ret
      obtain rfl := HV.out
      exact ⟨rfl, rfl⟩
set_option maxHeartbeats 2000000 in
theorem roff_any (s : ByteArray) (hs : s.size ≤ 100000) (l c r : Int) (ok : Bool) (hR : OffIs s.data.toList l c r ok) (w : World) :
    Calls Tryd.prog 17 #[.string s, .int .i64 l, .int .i64 c] w fun e w' => e = .returned (.tuple #[.int .i64 r, .bool ok]) ∧ w = w' := by
  have HR := Lib.hid hR
  clear hR
  have HSZ := Lib.hid (size_list s)
  have HP := Lib.hid (fun (k : Nat) (hk : k ≤ s.size) (W : World) => by
    have h := rpos_any s hs (k : Int) W
    rw [clp_self hk] at h
    exact h)
  go_enter Tryd.func17, Tryd.ntmps17
  go_wp2
  go_loopg [8] (s.size + 1) (fun gg iv wr => ∃ (k : Nat), iv = .int .i64 (k : Int) ∧ k ≤ s.size + 1 ∧ gg = s.size + 1 - k ∧ Hid (∀ j : Nat, j < k → ¬ ((lin s.data.toList j : Int) = l ∧ (col s.data.toList j : Int) = c)) ∧ wr = w)
  case atStart => exact ⟨0, rfl, Nat.zero_le _, rfl, Lib.hid fun j hj => absurd hj (Nat.not_lt_zero j), rfl⟩
  case round =>
    obtain ⟨k, rfl, hk, rfl, HN, rfl⟩ := hrel
    by_cases hlt : k < s.size + 1
    · have hks : k ≤ s.size := by omega
      have HK := Lib.hid hks
      by_cases h1 : (lin s.data.toList k : Int) = l
      · by_cases h2 : (col s.data.toList k : Int) = c
        · have HE : Hid (r = (k : Int) ∧ ok = true) := Lib.hid (off_uniq HR.out (.inl ⟨rfl, k, by rw [HSZ.out]; exact hks, rfl, h1, h2⟩))
          go_wp2_with (go_at_call 13; (with_reducible refine (HP.out _ HK.out _).mono ?_); rintro e w1 ⟨rfl, rfl⟩)
          obtain ⟨rfl, rfl⟩ := HE.out
          refine bodyPost_ret (v := .tuple #[.int .i64 (k : Int), .bool true]) (by simp [results, Tryd.results17, go_sem]) rfl ?_
          exact ⟨rfl, rfl⟩
        · have HM : Hid (∀ j : Nat, j < k + 1 → ¬ ((lin s.data.toList j : Int) = l ∧ (col s.data.toList j : Int) = c)) := Lib.hid (fun j hj hh => by
            rcases Nat.lt_succ_iff_lt_or_eq.1 hj with h | rfl
            · exact HN.out j h hh
            · exact h2 hh.2)
          go_wp2_with (go_at_call 13; (with_reducible refine (HP.out _ HK.out _).mono ?_); rintro e w1 ⟨rfl, rfl⟩)
          go_roundg (s.size + 1 - (k + 1))
          case measure => omega
          case rel => exact ⟨k + 1, (by go_num), by omega, rfl, HM, rfl⟩
      · have HM : Hid (∀ j : Nat, j < k + 1 → ¬ ((lin s.data.toList j : Int) = l ∧ (col s.data.toList j : Int) = c)) := Lib.hid (fun j hj hh => by
            rcases Nat.lt_succ_iff_lt_or_eq.1 hj with h | rfl
            · exact HN.out j h hh
            · exact h1 hh.1)
        go_wp2_with (go_at_call 13; (with_reducible refine (HP.out _ HK.out _).mono ?_); rintro e w1 ⟨rfl, rfl⟩)
        go_roundg (s.size + 1 - (k + 1))
        case measure => omega
        case rel => exact ⟨k + 1, (by go_num), by omega, rfl, HM, rfl⟩
    · have HE : Hid (r = 0 ∧ ok = false) := Lib.hid (off_uniq HR.out (.inr ⟨rfl, rfl, fun i hi => HN.out i (by rw [HSZ.out] at hi; omega)⟩))
      go_wp2
      obtain ⟨rfl, rfl⟩ := HE.out
      refine bodyPost_ret (v := .tuple #[.int .i64 0, .bool false]) (by simp [results, Tryd.results17, go_sem]) rfl ?_
      exact ⟨rfl, rfl⟩
theorem digit_cut (d : Nat) (h : d < 10) : (ByteArray.mk #[48, 49, 50, 51, 52, 53, 54, 55, 56, 57]).extract d (d + 1) = ⟨#[UInt8.ofNat (48 + d)]⟩ := by
  have : d = 0 ∨ d = 1 ∨ d = 2 ∨ d = 3 ∨ d = 4 ∨ d = 5 ∨ d = 6 ∨ d = 7 ∨ d = 8 ∨ d = 9 := by omega
  rcases this with rfl | rfl | rfl | rfl | rfl | rfl | rfl | rfl | rfl | rfl <;> rfl
theorem itoa_small (k : Nat) (h : k < 10) : itoa (k : Int) = [UInt8.ofNat (48 + k)] := by rw [Lib.itoa_nonneg, Lib.decDigits_one h]
theorem itoa_big (k : Nat) (h : ¬ k < 10) : itoa (k : Int) = itoa ((k / 10 : Nat) : Int) ++ [UInt8.ofNat (48 + k % 10)] := by
  rw [Lib.itoa_nonneg, Lib.itoa_nonneg, Lib.decDigits, dif_neg h]
theorem itoa_len (k : Nat) (h : k < 1000000) : (itoa (k : Int)).length ≤ 20 := by
  have := Lib.itoa_length_le (k : Int) (by omega) (by omega)
  rw [Lib.itoa_nonneg] at this ⊢
  exact Nat.le_trans (decDigits_pow k 6 (by omega)) (by omega)
theorem rnum_any (k : Nat) : ∀ (_ : k < 1000000) (w : World), Calls Tryd.prog 43 #[.int .i64 (k : Int)] w fun e w' => e = .returned (.string ⟨(itoa (k : Int)).toArray⟩) ∧ Grew w w' := by
  induction k using Nat.strongRecOn with
  | _ k ih =>
    intro hk w
    by_cases h : k < 10
    · have hcut := digit_cut k h
      have ht := Lib.hid (itoa_small k h)
      have h1 : ((k : Int) + 1).toNat = k + 1 := by omega
      go_enter Tryd.func43, Tryd.ntmps43
      go_wp2
      go_ret
      exact ⟨by rw [ht.out, UInt8.ofNat_add]; rfl, Grew.refl _⟩
    · have hq : k / 10 < 1000000 := by omega
      have e1 : (k : Int) / 10 = ((k / 10 : Nat) : Int) := by omega
      obtain ⟨d, hd⟩ : ∃ d, k % 10 = d := ⟨_, rfl⟩
      have e2 : (k : Int) % 10 = (d : Int) := by omega
      have e2t : (k : Int).tmod 10 = (d : Int) := by rw [Int.tmod_eq_emod_of_nonneg (by omega)]; omega
      have hd10 : d < 10 := by omega
      have hcut := digit_cut d hd10
      have ht := itoa_big k h
      rw [hd] at ht
      have hih := Lib.hid (ih (k / 10) (by omega) hq)
      generalize k / 10 = m at e1 hih ht hq
      have h1 : ((d : Int) + 1).toNat = d + 1 := by omega
      clear ih
      have ht := Lib.hid ht
      have hwm : IntKind.i64.wrap (m : Int) = (m : Int) := by rw [IntKind.wrap_i64]; omega
      have hwd : IntKind.i64.wrap ((d : Int) + 1) = (d : Int) + 1 := by rw [IntKind.wrap_i64]; omega
      have hsz : (ByteArray.mk #[48, 49, 50, 51, 52, 53, 54, 55, 56, 57]).size = 10 := rfl
      have k1 : (d : Int) + 1 ≤ 10 := by omega
      have k4 : (0 : Int) ≤ (d : Int) + 1 := by omega
      have k5 : (d : Int) ≤ (d : Int) + 1 := by omega
      have hlen := itoa_len m hq
      have hadd : ∀ w, (Op.stringOp .add ⟨(itoa (m : Int)).toArray⟩ ⟨#[48 + UInt8.ofNat d]⟩).run Tryd.prog w = .ok (.string ⟨(itoa (m : Int) ++ [48 + UInt8.ofNat d]).toArray⟩) w := fun w => run_string_add_lists w (itoa (m : Int)) [48 + UInt8.ofNat d] (by have := hlen; omega) (by simp)
      have hwd0 : IntKind.i64.wrap (d : Int) = (d : Int) := by rw [IntKind.wrap_i64]; omega
      go_enter Tryd.func43, Tryd.ntmps43
      go_wp2
      go_region_with (go_at_call 43; (with_reducible refine (hih.out _).mono ?_); rintro e w1 ⟨rfl, hb⟩)
      all_goals simp only [List.getElem_toArray, List.getElem_cons_zero, List.getElem_cons_succ, Act.put, List.setIfInBounds_toArray, List.set_cons_succ, List.set_cons_zero]
      all_goals go_wp2
      all_goals go_ret
      all_goals exact ⟨by rw [ht.out, UInt8.ofNat_add]; rfl, (Grew.refl w).drw.trans hb⟩
end Go.Proofs.YtmnncildkomagaaDoor
