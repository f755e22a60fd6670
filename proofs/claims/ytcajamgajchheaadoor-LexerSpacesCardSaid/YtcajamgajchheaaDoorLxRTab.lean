/-
  LAYER 15's REFERENCE: Keywords, Punctuation, Has.
-/
import Derived.Test.YtcajamgajchheaaDoorLxFst
import Derived.Test.YtcajamgajchheaaDoorPostsTail
import Derived.Test.YtcajamgajchheaaDoorPostsFr
namespace Go.Proofs.YtcajamgajchheaaDoor
open Go Go.RowKit Go.IntWalk
set_option linter.unusedSimpArgs false
set_option linter.unusedVariables false
set_option maxRecDepth 8000

abbrev stc (t : ByteArray) : List Value := [.string t]
theorem encS : Enc 1 stc := ⟨fun _ => rfl, fun x u hu => by simp at hu; rcases hu with rfl; rfl, by decide⟩
def kwb : List ByteArray := kwl.map (fun l => ⟨l.toArray⟩)
def mkb : List ByteArray := mks.map (fun l => ⟨l.toArray⟩)
theorem rkw_any (w : World) : Calls Tryd.prog 24 #[] w fun e w' => ∃ p, e = .returned (.slice p 22 22) ∧ Rw 1 stc w' p 22 kwb ∧ Grew w w' := by
  go_enter Tryd.func24, Tryd.ntmps24
  go_wp2
  go_ret
  exact ⟨_, rfl, Rw.made encS w kwb 22 _ _ _ (by kernel_rfl) (by kernel_rfl) (by decide), (Grew.refl w).alloc _⟩
theorem rmk_any (w : World) : Calls Tryd.prog 25 #[] w fun e w' => ∃ p, e = .returned (.slice p 23 23) ∧ Rw 1 stc w' p 23 mkb ∧ Grew w w' := by
  go_enter Tryd.func25, Tryd.ntmps25
  go_wp2
  go_ret
  exact ⟨_, rfl, Rw.made encS w mkb 23 _ _ _ (by kernel_rfl) (by kernel_rfl) (by decide), (Grew.refl w).alloc _⟩
theorem str_eq {a b : ByteArray} : (a.toList == b.toList) = decide (a = b) := by
  rw [ByteArray.toList_eq, ByteArray.toList_eq, Bool.eq_iff_iff, beq_iff_eq, decide_eq_true_iff]
  exact ⟨fun h => by cases a; cases b; simp at h; rw [h], fun h => by rw [h]⟩
set_option maxHeartbeats 2000000 in
theorem has_any (p : Option Addr) (c : Nat) (l : List ByteArray) (s : ByteArray) (b : Bool) (hb : b = true ↔ s ∈ l) (w : World) (h : Rw 1 stc w p c l) : Calls Tryd.prog 46 #[.slice p l.length c, .string s] w fun e w' => e = .returned (.bool b) ∧ w = w' := by
  have HX := Lib.hid h
  have hcap := h.cap
  have hmax := h.max
  have HNO := Lib.hid (fun (hno : ∀ i (hi : i < l.length), l[i] ≠ s) => (show b = false by
    rw [Bool.eq_false_iff]
    intro h1
    obtain ⟨i, hi, e⟩ := List.getElem_of_mem (hb.1 h1)
    exact hno i hi e))
  have HYES := Lib.hid (fun k (hk : k < l.length) (e : l[k] = s) => (show b = true from hb.2 (e ▸ List.getElem_mem hk)))
  clear h hb
  go_enter Tryd.func46, Tryd.ntmps46
  go_wp2
  go_loopg [5] l.length (fun gg iv wr => ∃ (k : Nat), iv = .int .i64 (k : Int) ∧ k ≤ l.length ∧ gg = l.length - k ∧ Hid (∀ i (hi : i < l.length), i < k → l[i] ≠ s) ∧ wr = w)
  case atStart => exact ⟨0, rfl, Nat.zero_le _, rfl, Lib.hid (fun i _ h => absurd h (Nat.not_lt_zero i)), rfl⟩
  case round =>
    obtain ⟨k, rfl, hk, rfl, HN, rfl⟩ := hrel
    by_cases hlt : k < l.length
    · obtain ⟨b1, o1, rfl, hcc⟩ := HX.out.rd.cells (by omega)
      have hx : l[k]? = some l[k] := by simp [hlt]
      have hc1 := hcc k l[k] hx
      have HY := Lib.hid (HYES.out k hlt)
      have HT : Hid (∀ t, l[k] = t → t ≠ s → l[k]'hlt ≠ s) := Lib.hid (fun t e h => by rw [e]; exact h)
      obtain ⟨t, ht⟩ : ∃ t, l[k] = t := ⟨_, rfl⟩
      rw [ht] at hc1 HY
      have HT2 := Lib.hid (HT.out t ht)
      have q0 : wr.cell? ⟨b1, o1 + k, none⟩ = some (.string t) := by simpa using hc1 0 _ rfl
      have HLT := Lib.hid (Nat.succ_le_of_lt hlt)
      clear hcc hc1 hx ht HT
      by_cases he : t = s
      · have h1 : (t.toList == s.toList) = true := by rw [he]; simp
        have HE := Lib.hid (HY.out he)
        clear he
        go_wp2
        go_ret
        exact ⟨ret_bool HE.out.symm, rfl⟩
      · have h1 : (t.toList == s.toList) = false := by rw [str_eq]; exact decide_eq_false he
        have HE := Lib.hid (HT2.out he)
        clear he
        go_wp2
        go_roundg (l.length - (k + 1))
        case measure => have := HLT.out; omega
        case rel => exact ⟨k + 1, by go_num, HLT.out, rfl, Lib.hid (fun i hi hik => by rcases Nat.lt_or_eq_of_le (Nat.le_of_lt_succ hik) with h | rfl; exact HN.out i hi h; exact HE.out), rfl⟩
    · obtain rfl : k = l.length := by omega
      have HF := Lib.hid (HNO.out (fun i hi => HN.out i hi hi))
      go_wp2
      go_ret
      exact ⟨ret_bool HF.out.symm, rfl⟩
theorem kwb_has (s : ByteArray) : kwl.contains s.data.toList = true ↔ s ∈ kwb := by
  simp only [kwb, List.mem_map, List.contains_eq_mem, decide_eq_true_eq]
  constructor
  · intro h; exact ⟨_, h, by cases s; rfl⟩
  · rintro ⟨l, hl, rfl⟩; exact hl
end Go.Proofs.YtcajamgajchheaaDoor
