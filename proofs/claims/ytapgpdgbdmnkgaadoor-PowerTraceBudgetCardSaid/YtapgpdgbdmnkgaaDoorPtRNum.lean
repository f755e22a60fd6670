/-
  CONTRACTS OF LAYER 13 (powertrace): the reference's number.
-/
import Derived.Test.YtapgpdgbdmnkgaaDoorPtRText
namespace Go.Proofs.YtapgpdgbdmnkgaaDoor
open Go Go.RowKit Go.IntWalk
open Go.Lib (itoa)
set_option linter.unusedSimpArgs false
set_option linter.unusedVariables false
set_option maxRecDepth 8000

/-- What number gives. -/
def numV (l : List UInt8) : Int := if 1 ≤ l.length ∧ l.length ≤ 13 ∧ ∀ c ∈ l, 48 ≤ c.toNat ∧ c.toNat ≤ 57 then (dval 0 l : Nat) else -1
theorem itoa_digits {l : List UInt8} {z : Int} (h0 : 0 ≤ z) (h1 : z ≤ 1099511627776) (h : l = itoa z) : 1 ≤ l.length ∧ l.length ≤ 13 ∧ (∀ c ∈ l, 48 ≤ c.toNat ∧ c.toNat ≤ 57) ∧ z = (dval 0 l : Nat) := by
  obtain ⟨u, rfl⟩ : ∃ u : Nat, z = u := ⟨z.toNat, by omega⟩
  rw [Lib.itoa_nonneg] at h
  subst h
  refine ⟨?_, decDigits_pow u 12 (by omega), decDigits_digit u, by rw [dval_decDigits]⟩
  have := decDigits_ne u
  cases hl : Lib.decDigits u with
  | nil => exact absurd hl this
  | cons c r => simp
theorem dval_le13 (l : List UInt8) (h : ∀ c ∈ l, 48 ≤ c.toNat ∧ c.toNat ≤ 57) (hk : l.length ≤ 13) : dval 0 l ≤ 9999999999999 := by
  have h1 := dval_bd l h 0
  have h2 : 10 ^ l.length ≤ 10 ^ 13 := Nat.pow_le_pow_right (by omega) hk
  omega
theorem numV_bd (l : List UInt8) : -1 ≤ numV l ∧ numV l ≤ 9999999999999 := by
  unfold numV
  split
  · rename_i h
    have := dval_le13 l h.2.2 h.2.1
    omega
  · omega
theorem numV_itoa {z : Int} (h0 : 0 ≤ z) (h1 : z ≤ 1099511627776) : numV (itoa z) = z := by
  obtain ⟨a, b, c, d⟩ := itoa_digits h0 h1 (rfl : itoa z = itoa z)
  unfold numV
  rw [if_pos ⟨a, b, c⟩]
  exact d.symm
set_option maxHeartbeats 2000000 in
theorem rnumber_any (s : ByteArray) (hs : s.size ≤ 100000) (w : World) : Calls Tryd.prog 49 #[.string s] w fun e w' => e = .returned (.int .i64 (numV s.data.toList)) ∧ w' = w := by
  have hsz : s.data.toList.length = s.size := rfl
  by_cases hr : 1 ≤ s.size ∧ s.size ≤ 13
  · obtain ⟨hr1, hr2⟩ := hr
    have g1 : ¬ (s.size : Int) < 1 := by omega
    have g2 : ¬ 13 < (s.size : Int) := by omega
    have HR := Lib.hid (And.intro hr1 hr2)
    go_enter Tryd.func49, Tryd.ntmps49
    go_wp2
    all_goals first | (exfalso; omega) | skip
    go_loopg [3, 4] s.size (fun gg nv iv wr => ∃ (k m : Nat), nv = .int .i64 (m : Int) ∧ iv = .int .i64 (k : Int) ∧ k ≤ s.size ∧ gg = s.size - k ∧ m ≤ 9999999999999 ∧ Hid (m = dval 0 (s.data.toList.take k)) ∧ Hid (∀ c ∈ s.data.toList.take k, 48 ≤ c.toNat ∧ c.toNat ≤ 57) ∧ wr = w)
    case atStart => exact ⟨0, 0, rfl, rfl, Nat.zero_le _, rfl, by omega, Lib.hid rfl, Lib.hid (fun c hc => by simp at hc), rfl⟩
    case round =>
      obtain ⟨k, m, rfl, rfl, hk, rfl, hm, HV, HD, rfl⟩ := hrel
      by_cases hlt : k < s.size
      · have HS := Lib.hid (show dval 0 (s.data.toList.take (k + 1)) = 10 * dval 0 (s.data.toList.take k) + (s[k].toNat - 48) by rw [take_snoc s k hlt, dval_snoc])
        have HM : Hid (s[k] ∈ s.data.toList) := List.getElem_mem (l := s.data.toList) (n := k) hlt
        have HT := Lib.hid (take_snoc s k hlt)
        by_cases g1 : 48 ≤ s[k].toNat ∧ s[k].toNat ≤ 57
        · obtain ⟨g1, g2⟩ := g1
          have G := Lib.hid (And.intro g1 g2)
          have HD2 : Hid (∀ c ∈ s.data.toList.take (k + 1), 48 ≤ c.toNat ∧ c.toNat ≤ 57) := Lib.hid (fun c hc => by
            rw [HT.out] at hc
            rcases List.mem_append.1 hc with hc | hc
            · exact HD.out c hc
            · rw [List.mem_singleton.1 hc]; exact G.out)
          have HB : Hid (10 * m + (s[k].toNat - 48) ≤ 9999999999999) := Lib.hid (by
            have := dval_le13 _ HD2.out (by rw [List.length_take]; exact Nat.le_trans (Nat.min_le_right _ _) HR.out.2)
            rw [HS.out, ← HV.out] at this
            exact this)
          have hbb := HB.out
          go_wp2
          all_goals first | (exfalso; omega) | skip
          go_roundg (s.size - (k + 1))
          case measure => omega
          case rel => exact ⟨k + 1, 10 * m + (s[k].toNat - 48), (by go_num), (by go_num), hlt, rfl, HB.out, Lib.hid (by rw [HS.out, HV.out]), HD2, rfl⟩
        · have HN : Hid (numV s.data.toList = -1) := Lib.hid (if_neg fun h => g1 (h.2.2 _ HM.out))
          go_wp2
          all_goals first | (exfalso; omega) | skip
          all_goals go_ret
          all_goals exact ⟨ret_i64 HN.out.symm, rfl⟩
      · obtain rfl : k = s.size := by omega
        have hall : s.data.toList.take s.size = s.data.toList := List.take_of_length_le (Nat.le_refl _)
        rw [hall] at HV HD
        have HF : Hid (numV s.data.toList = (m : Nat)) := Lib.hid (by unfold numV; rw [if_pos ⟨HR.out.1, HR.out.2, HD.out⟩, HV.out])
        clear hall
        go_wp2
        go_ret
        exact ⟨ret_i64 HF.out.symm, rfl⟩
  · have HN : Hid (numV s.data.toList = -1) := Lib.hid (if_neg fun h => hr ⟨h.1, h.2.1⟩)
    go_enter Tryd.func49, Tryd.ntmps49
    go_wp2
    all_goals first | (exfalso; omega) | skip
    all_goals go_ret
    all_goals exact ⟨ret_i64 HN.out.symm, rfl⟩
end Go.Proofs.YtapgpdgbdmnkgaaDoor
