/-
  CONTRACTS OF LAYER 15's REFERENCE: blank.
-/
import Derived.Test.YtcajamgajchheaaDoorLxRef
namespace Go.Proofs.YtcajamgajchheaaDoor
open Go Go.RowKit Go.IntWalk
set_option linter.unusedSimpArgs false
set_option linter.unusedVariables false
set_option maxRecDepth 8000

/-- What blank counts. -/
def bl (xs : List UInt8) : Nat := xs.length - (sk false xs).length
theorem bl_of {l : List UInt8} {k : Nat} (hk : k ≤ l.length) (h : sk false l = l.drop k) : bl l = k := by
  rw [bl, h, List.length_drop]
  omega
set_option maxHeartbeats 4000000 in
theorem blank_any (s : ByteArray) (hs : s.size ≤ 100000) (w : World) : Calls Tryd.prog 28 #[.string s] w fun e w' => e = .returned (.int .i64 (bl s.data.toList : Nat)) ∧ w = w' := by
  have HB := Lib.hid (fun k (hk : k ≤ s.size) (h : sk false s.data.toList = s.data.toList.drop k) => bl_of (l := s.data.toList) hk h)
  generalize bl s.data.toList = q at HB ⊢
  obtain ⟨Y, hY⟩ : ∃ Y, sk false s.data.toList = Y := ⟨_, rfl⟩
  rw [hY] at HB
  have HAT := Lib.hid (fun k (h : k < s.size) c => sk_at (l := s.data.toList) (k := k) h c)
  have HEND := Lib.hid (fun k (h : s.size ≤ k) c => sk_end (l := s.data.toList) (k := k) h c)
  have HY := Lib.hid hY
  clear hY
  go_enter Tryd.func28, Tryd.ntmps28
  go_wp2
  go_loopg [3] s.size (fun gg nv wr => ∃ (k : Nat), nv = .int .i64 (k : Int) ∧ k ≤ s.size ∧ gg = s.size - k ∧ Hid (sk false (s.data.toList.drop k) = Y) ∧ wr = w)
  case atStart => exact ⟨0, rfl, Nat.zero_le _, rfl, HY, rfl⟩
  case round =>
    obtain ⟨k, rfl, hk, rfl, HV, rfl⟩ := hrel
    by_cases hlt : k < s.size
    · have HA := Lib.hid (HAT.out k hlt false)
      have HW := Lib.hid (ws_iff s[k])
      have HG : Hid (s.data.toList[k]'hlt = s[k]) := Lib.hid rfl
      by_cases hw : (s[k].toNat : Int) = 32 ∨ (s[k].toNat : Int) = 9 ∨ (s[k].toNat : Int) = 10 ∨ (s[k].toNat : Int) = 13
      · have HN : Hid (sk false (s.data.toList.drop (k + 1)) = Y) := Lib.hid (by
          have h1 := HA.out
          rw [if_neg (by simp), HG.out, if_pos (HW.out.2 hw)] at h1
          rw [← h1]
          exact HV.out)
        clear HA HW HG HV
        rcases hw with hw | hw | hw | hw
        all_goals
          go_wp2
          all_goals first | (exfalso; omega) | skip
          go_roundg (s.size - (k + 1))
          case measure => omega
          case rel => exact ⟨k + 1, by go_num, hlt, rfl, HN, rfl⟩
      · have hw1 : ((s[k].toNat : Int) == 32) = false := beq_eq_false_iff_ne.2 (fun h => hw (.inl h))
        have hw2 : ((s[k].toNat : Int) == 9) = false := beq_eq_false_iff_ne.2 (fun h => hw (.inr (.inl h)))
        have hw3 : ((s[k].toNat : Int) == 10) = false := beq_eq_false_iff_ne.2 (fun h => hw (.inr (.inr (.inl h))))
        have hw4 : ((s[k].toNat : Int) == 13) = false := beq_eq_false_iff_ne.2 (fun h => hw (.inr (.inr (.inr h))))
        have HA2 : Hid (sk false (s.data.toList.drop k) = if s.data.toList[k]'hlt == 47 && s.data.toList[k + 1]? == some 47 then sk true (s.data.toList.drop (k + 1)) else s.data.toList.drop k) := Lib.hid (by
          have h1 := HA.out
          rw [if_neg (by simp), HG.out, if_neg (fun h => hw (HW.out.1 h))] at h1
          rw [h1, HG.out])
        clear HA HW hw
        by_cases hc : (s[k].toNat : Int) = 47 ∧ ∃ h : k + 1 < s.size, (s[k + 1].toNat : Int) = 47
        · obtain ⟨hc1, hk2, hc2⟩ := hc
          have HT : Hid (sk true (s.data.toList.drop k) = Y) := Lib.hid (by
            have h2 : s.data.toList[k + 1]? = some (s.data.toList[k + 1]'hk2) := List.getElem?_eq_getElem _
            have h3 : s.data.toList[k + 1]'hk2 = 47 := eq_of_beq ((byte_is (s[k + 1]'hk2) 47).2 hc2)
            have h4 : s[k] = 47 := eq_of_beq ((byte_is s[k] 47).2 hc1)
            have h1 := HA2.out
            rw [HG.out, h2, h3, h4] at h1
            rw [HAT.out k hlt true, if_pos rfl, HG.out, h4]
            rw [← HV.out, h1]
            rfl)
          clear HA2 HG HV
          go_wp2
          all_goals first | (exfalso; omega) | skip
          go_loopg [3] (s.size - k) (fun gg nv wx => ∃ (j : Nat), nv = .int .i64 (j : Int) ∧ k ≤ j ∧ j ≤ s.size ∧ gg = s.size - j ∧ Hid (sk true (s.data.toList.drop j) = Y) ∧ wx = wr)
          case atStart => exact ⟨k, rfl, Nat.le_refl _, hk, rfl, HT, rfl⟩
          case round =>
            obtain ⟨j, rfl, hkj, hj, rfl, HJ, rfl⟩ := hrel
            by_cases hjl : j < s.size
            · have HA3 := Lib.hid (HAT.out j hjl true)
              have HG3 : Hid (s.data.toList[j]'hjl = s[j]) := Lib.hid rfl
              by_cases h10 : (s[j].toNat : Int) = 10
              · have HN : Hid (sk false (s.data.toList.drop j) = Y) := Lib.hid (by
                  have h4 : s[j] = 10 := eq_of_beq ((byte_is s[j] 10).2 h10)
                  have h5 := HA3.out
                  rw [if_pos rfl, HG3.out, h4] at h5
                  rw [HAT.out j hjl false, if_neg (by simp), HG3.out, h4]
                  rw [← HJ.out, h5]
                  rfl)
                have hne : k ≠ j := fun h => by subst h; omega
                have hb10 : ((s[j].toNat : Int) != 10) = false := by rw [h10]; rfl
                clear HA3 HG3 HJ
                go_wp2
                all_goals first | (exfalso; omega) | skip
                go_roundg (s.size - j)
                case measure => omega
                case rel => exact ⟨j, rfl, hj, rfl, HN, rfl⟩
              · have HN : Hid (sk true (s.data.toList.drop (j + 1)) = Y) := Lib.hid (by
                  have h5 := HA3.out
                  rw [if_pos rfl, HG3.out, if_neg (fun h => h10 ((byte_is _ _).1 h))] at h5
                  rw [← h5]
                  exact HJ.out)
                clear HA3 HG3 HJ
                have hb10 : ((s[j].toNat : Int) != 10) = true := bne_iff_ne.2 h10
                clear h10
                go_wp2
                all_goals first | (exfalso; omega) | skip
                go_roundg (s.size - (j + 1))
                case measure => omega
                case rel => exact ⟨j + 1, by go_num, by omega, hjl, rfl, HN, rfl⟩
            · obtain rfl : j = s.size := by omega
              have HN : Hid (sk false (s.data.toList.drop s.size) = Y) := Lib.hid (by
                rw [HEND.out _ (Nat.le_refl _) false, ← HJ.out, HEND.out _ (Nat.le_refl _) true])
              clear HJ
              go_wp2
              all_goals first | (exfalso; omega) | skip
              go_roundg (s.size - s.size)
              case measure => omega
              case rel => exact ⟨s.size, rfl, hj, rfl, HN, rfl⟩
        · have HF := Lib.hid (HB.out k hk (by
            have h1 := HA2.out
            rw [if_neg (fun h => by
              obtain ⟨e1, e2⟩ := Bool.and_eq_true_iff.1 h
              rw [HG.out] at e1
              have e3 : s.data.toList[k + 1]? = some 47 := eq_of_beq e2
              obtain ⟨e4, e5⟩ := List.getElem?_eq_some_iff.1 e3
              refine hc ⟨(byte_is _ _).1 e1, e4, ?_⟩
              have e6 : s[k + 1] = 47 := e5
              rw [e6]; rfl)] at h1
            rw [← HV.out, h1]))
          clear HA2 HG HV
          by_cases h47 : (s[k].toNat : Int) = 47
          · by_cases hk2 : k + 1 < s.size
            · have hn : ((s[k + 1].toNat : Int) != 47) = true := bne_iff_ne.2 (fun h => hc ⟨h47, hk2, h⟩)
              have hm : ((s[k].toNat : Int) != 47) = false := by rw [h47]; rfl
              have hk3 : decide ((s.size : Int) ≤ (k : Int) + 1) = false := decide_eq_false (by omega)
              clear hc h47
              go_wp2
              all_goals first | (exfalso; omega) | skip
              all_goals go_ret
              all_goals exact ⟨ret_i64 (by rw [HF.out]), rfl⟩
            · have hk3 : decide ((s.size : Int) ≤ (k : Int) + 1) = true := decide_eq_true (by omega)
              clear hc h47
              go_wp2
              all_goals first | (exfalso; omega) | skip
              all_goals go_ret
              all_goals exact ⟨ret_i64 (by rw [HF.out]), rfl⟩
          · have hm : ((s[k].toNat : Int) != 47) = true := bne_iff_ne.2 h47
            clear hc h47
            rcases Nat.lt_or_ge (k + 1) s.size with hk2 | hk2
            · have hk3 : decide ((s.size : Int) ≤ (k : Int) + 1) = false := decide_eq_false (by omega)
              go_wp2
              all_goals first | (exfalso; omega) | skip
              all_goals go_ret
              all_goals exact ⟨ret_i64 (by rw [HF.out]), rfl⟩
            have hk3 : decide ((s.size : Int) ≤ (k : Int) + 1) = true := decide_eq_true (by omega)
            go_wp2
            all_goals first | (exfalso; omega) | skip
            all_goals go_ret
            all_goals exact ⟨ret_i64 (by rw [HF.out]), rfl⟩
    · obtain rfl : k = s.size := by omega
      have HF := Lib.hid (HB.out s.size hk (by rw [← HV.out, HEND.out _ (Nat.le_refl _) false]; exact (List.drop_of_length_le (Nat.le_refl _)).symm))
      go_wp2
      go_ret
      exact ⟨ret_i64 (by rw [HF.out]), rfl⟩
end Go.Proofs.YtcajamgajchheaaDoor
