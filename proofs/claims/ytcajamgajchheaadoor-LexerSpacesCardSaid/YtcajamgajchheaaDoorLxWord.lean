/-
  LAYER 15 (lexer): isKeyword, mark; the reference's Keywords, Punctuation, Has.
-/
import Derived.Test.YtcajamgajchheaaDoorLxBase
namespace Go.Proofs.YtcajamgajchheaaDoor
open Go Go.RowKit Go.IntWalk
set_option linter.unusedSimpArgs false
set_option linter.unusedVariables false
set_option maxRecDepth 8000

theorem kwl_at {k : Nat} (h : k < 22) : kwl.getD k [] ∈ kwl := by
  have hl : k < kwl.length := h
  rw [List.getD_eq_getElem?_getD, List.getElem?_eq_getElem hl]
  exact List.getElem_mem hl
theorem kwl_no {t : List UInt8} (h : ∀ i, i < 22 → kwl.getD i [] ≠ t) : kwl.contains t = false := by
  rw [Bool.eq_false_iff]
  intro h1
  obtain ⟨i, hi, e⟩ := List.getElem_of_mem (by simpa using h1 : t ∈ kwl)
  refine h i hi ?_
  rw [List.getD_eq_getElem?_getD, List.getElem?_eq_getElem hi, e]
  rfl
set_option maxHeartbeats 4000000 in
theorem iskw_any (s : ByteArray) (w : World) (hE : Env w) : Calls Tryd.prog 57 #[.string s] w fun e w' => e = .returned (.bool (kwl.contains s.data.toList)) ∧ w = w' := by
  have HNO := Lib.hid (kwl_no (t := s.data.toList))
  have HYES := Lib.hid (fun k (hk : k < 22) (e : kwl.getD k [] = s.data.toList) => (show kwl.contains s.data.toList = true by rw [← e]; simpa using kwl_at hk))
  generalize kwl.contains s.data.toList = b at HNO HYES ⊢
  go_enter Tryd.func57, Tryd.ntmps57
  go_upto_region 1 with fail
  refine wp_region_list ?_
  refine wpList_load_mid rfl 63 (.global 0) rfl 0 0 rfl (kwl.map (fun l => Value.string ⟨l.toArray⟩)) _ hE.rangeK Tryd.underlying63 rfl (by kernel_rfl) ?_
  have HIX := Lib.hid index_kw
  generalize Value.agg (kwl.map (fun l => Value.string ⟨l.toArray⟩)).toArray = TAB at HIX ⊢
  clear hE
  go_wp2
  go_loopg [6] 22 (fun gg iv wr => ∃ j : Nat, iv = .int .i64 (j : Int) ∧ j ≤ 22 ∧ gg = 22 - j ∧ Hid (∀ i, i < j → kwl.getD i [] ≠ s.data.toList) ∧ wr = w)
  case atStart => exact ⟨0, rfl, by omega, rfl, Lib.hid (fun i h => absurd h (Nat.not_lt_zero i)), rfl⟩
  case round =>
    obtain ⟨j, rfl, hj, rfl, HN, rfl⟩ := hrel
    by_cases hlt : j < 22
    · have hx := fun W => HIX.out j hlt W
      have HJ := Lib.hid hlt
      have HY := Lib.hid (HYES.out j hlt)
      obtain ⟨t, ht⟩ : ∃ t, kwl.getD j [] = t := ⟨_, rfl⟩
      rw [ht] at hx HY
      have HT := Lib.hid ht
      clear ht
      by_cases he : t = s.data.toList
      · have h1 : (t == s.toList) = true := by rw [beq_list, he]; simp
        have HE := Lib.hid (HY.out he)
        clear he
        go_wp2
        go_ret
        exact ⟨ret_bool HE.out.symm, rfl⟩
      · have h1 : (t == s.toList) = false := by rw [beq_list]; simpa using he
        have HE := Lib.hid he
        clear he
        go_wp2
        go_roundg (22 - (j + 1))
        case measure => have := HJ.out; omega
        case rel => exact ⟨j + 1, by go_num, HJ.out, rfl, Lib.hid (fun i hi => by rcases Nat.lt_or_eq_of_le (Nat.le_of_lt_succ hi) with h | rfl; exact HN.out i h; rw [HT.out]; exact HE.out), rfl⟩
    · obtain rfl : j = 22 := by omega
      have HF := Lib.hid (HNO.out HN.out)
      go_wp2
      go_ret
      exact ⟨ret_bool HF.out.symm, rfl⟩
end Go.Proofs.YtcajamgajchheaaDoor
