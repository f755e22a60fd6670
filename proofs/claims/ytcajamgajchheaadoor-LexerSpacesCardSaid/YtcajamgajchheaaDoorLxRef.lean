/-
  CONTRACTS OF LAYER 15's REFERENCE: letter, digit, word, number, blank.
-/
import Derived.Test.YtcajamgajchheaaDoorLxPlain
import Derived.Test.YtcajamgajchheaaDoorChecked
import Derived.Deep.LoopGhost
import Derived.Deep.CutBlock
import Derived.Lib.Slices
import Derived.Lib.Hide
namespace Go.Proofs.YtcajamgajchheaaDoor
open Go Go.RowKit Go.IntWalk
set_option linter.unusedSimpArgs false
set_option linter.unusedVariables false
set_option maxRecDepth 8000

theorem not_run (b : Bool) (W : World) : Sem.run Tryd.prog (Op.unary UnOp.not (.bool b)) W = .ok (.bool (!b)) W := by cases b <;> rfl
theorem size_list (s : ByteArray) : s.data.toList.length = s.size := rfl
theorem letter_any (c : UInt8) (w : World) : Calls Tryd.prog 31 #[.int .u8 (c.toNat : Int)] w fun e w' => e = .returned (.bool (ltr c)) ∧ w = w' := by
  have hb := c.toNat_lt
  generalize hc : c.toNat = n at hb
  have HC := Lib.hid hc
  clear hc
  rcases (by omega : n < 65 ∨ (65 ≤ n ∧ n ≤ 90) ∨ (90 < n ∧ n < 97) ∨ (97 ≤ n ∧ n ≤ 122) ∨ 122 < n) with h | ⟨h, h'⟩ | ⟨h, h'⟩ | ⟨h, h'⟩ | h
  all_goals
    go_enter Tryd.func31, Tryd.ntmps31
    go_wp2
    all_goals first | (exfalso; omega) | (exfalso; simp_all; done) | skip
    all_goals go_ret
    all_goals exact ⟨ret_bool (by rw [ltr, HC.out, Bool.eq_iff_iff]; simp <;> omega), rfl⟩
theorem digit_any (c : UInt8) (w : World) : Calls Tryd.prog 32 #[.int .u8 (c.toNat : Int)] w fun e w' => e = .returned (.bool (dig c)) ∧ w = w' := by
  have hb := c.toNat_lt
  generalize hc : c.toNat = n at hb
  have HC := Lib.hid hc
  clear hc
  go_enter Tryd.func32, Tryd.ntmps32
  go_wp2
  all_goals go_ret
  all_goals exact ⟨ret_bool (by rw [dig, HC.out, Bool.eq_iff_iff]; simp; omega), rfl⟩
/-! ## word, number, blank -/
theorem takeWhile_len (p : UInt8 → Bool) (l : List UInt8) (k : Nat) (h : ∀ i, ∀ hi : i < l.length, i < k → p l[i] = true) (hk : k ≤ l.length) (hs : ∀ hi : k < l.length, p l[k] = false) : (l.takeWhile p).length = k := by
  induction l generalizing k with
  | nil => simp at hk; simp [hk]
  | cons a l ih =>
    cases k with
    | zero =>
      have := hs (by simp)
      rw [List.takeWhile_cons, if_neg (by simpa using this)]
      rfl
    | succ k =>
      have h0 := h 0 (by simp) (by omega)
      rw [List.takeWhile_cons, if_pos (by simpa using h0), List.length_cons, ih k (fun i hi hik => by have := h (i + 1) (by simp; omega) (by omega); simpa using this) (by simpa using hk) (fun hi => by have := hs (by simp; omega); simpa using this)]
theorem number_any (s : ByteArray) (hs : s.size ≤ 100000) (w : World) : Calls Tryd.prog 47 #[.string s] w fun e w' => e = .returned (.int .i64 ((s.data.toList.takeWhile dig).length : Nat)) ∧ w = w' := by
  have HK := Lib.hid (takeWhile_len dig s.data.toList)
  have HD := Lib.hid (fun c W => digit_any c W)
  generalize (s.data.toList.takeWhile dig).length = q at HK ⊢
  go_enter Tryd.func47, Tryd.ntmps47
  go_wp2
  go_loopg [3] s.size (fun gg nv wr => ∃ (k : Nat), nv = .int .i64 (k : Int) ∧ k ≤ s.size ∧ gg = s.size - k ∧ Hid (∀ i, ∀ hi : i < s.data.toList.length, i < k → dig s.data.toList[i] = true) ∧ wr = w)
  case atStart => exact ⟨0, rfl, Nat.zero_le _, rfl, Lib.hid (fun i hi h => absurd h (Nat.not_lt_zero _)), rfl⟩
  case round =>
    obtain ⟨k, rfl, hk, rfl, HV, rfl⟩ := hrel
    by_cases hlt : k < s.size
    · have HS := Lib.hid (show ∀ b, dig s[k] = b → dig (s.data.toList[k]'hlt) = b from fun b h => h)
      cases hd : dig s[k] with
      | true =>
        have HC := Lib.hid (fun W => HD.out s[k] W)
        rw [hd] at HC HS
        have HN : Hid (∀ i, ∀ hi : i < s.data.toList.length, i < k + 1 → dig s.data.toList[i] = true) := Lib.hid (fun i hi h => by
          rcases Nat.lt_succ_iff_lt_or_eq.1 h with h | rfl
          · exact HV.out i hi h
          · exact HS.out _ rfl)
        clear hd
        go_wp2_with (go_at_call 32; (with_reducible refine (HC.out _).mono ?_); rintro e w1 ⟨rfl, rfl⟩)
        go_roundg (s.size - (k + 1))
        case measure => omega
        case rel => exact ⟨k + 1, by go_num, hlt, rfl, HN, rfl⟩
      | false =>
        have HC := Lib.hid (fun W => HD.out s[k] W)
        rw [hd] at HC HS
        have HF := Lib.hid (HK.out k HV.out hk (fun _ => HS.out _ rfl))
        clear hd
        go_wp2_with (go_at_call 32; (with_reducible refine (HC.out _).mono ?_); rintro e w1 ⟨rfl, rfl⟩)
        go_ret
        exact ⟨ret_i64 (by rw [HF.out]), rfl⟩
    · obtain rfl : k = s.size := by omega
      have HF := Lib.hid (HK.out _ HV.out hk (fun h => absurd h (Nat.lt_irrefl _)))
      go_wp2
      go_ret
      exact ⟨ret_i64 (by rw [HF.out]), rfl⟩
/-- The length of the word at the start of a text, or 0. -/
def wl : List UInt8 → Nat
  | [] => 0
  | a :: r => if ltr a then 1 + (r.takeWhile wd).length else 0
theorem wl_len (l : List UInt8) (k : Nat) (h0 : 0 < l.length) (hl : ltr l[0] = true) (h1 : 1 ≤ k) (h : ∀ i, ∀ hi : i < l.length, 1 ≤ i → i < k → wd l[i] = true) (hk : k ≤ l.length) (hs : ∀ hi : k < l.length, wd l[k] = false) : wl l = k := by
  cases l with
  | nil => simp at h0
  | cons a r =>
    obtain ⟨j, rfl⟩ : ∃ j, k = j + 1 := ⟨k - 1, by omega⟩
    rw [wl, if_pos (by simpa using hl), takeWhile_len wd r j (fun i hi hij => by have := h (i + 1) (by simp; omega) (by omega) (by omega); simpa using this) (by simpa using hk) (fun hi => by have := hs (by simp; omega); simpa using this), Nat.add_comm]
set_option maxHeartbeats 2000000 in
theorem word_any (s : ByteArray) (hs : s.size ≤ 100000) (w : World) : Calls Tryd.prog 45 #[.string s] w fun e w' => e = .returned (.int .i64 (wl s.data.toList : Nat)) ∧ w = w' := by
  have HK := Lib.hid (wl_len s.data.toList)
  have HL := Lib.hid (fun c W => letter_any c W)
  have HD := Lib.hid (fun c W => digit_any c W)
  by_cases hz : s.size = 0
  · have hw : wl s.data.toList = 0 := by
      have : s.data.toList = [] := List.eq_nil_of_length_eq_zero hz
      rw [this]; rfl
    have HW := Lib.hid hw
    have hnl : s.data.toList = [] := List.eq_nil_of_length_eq_zero hz
    clear hw
    generalize wl s.data.toList = q at HW ⊢
    clear HK
    go_enter Tryd.func45, Tryd.ntmps45
    go_wp2
    all_goals first | (exfalso; omega) | skip
    go_ret
    exact ⟨ret_i64 (by rw [HW.out]; rfl), rfl⟩
  · have hpos : 0 < s.size := Nat.pos_of_ne_zero hz
    have hne : ((s.size : Int) == 0) = false := beq_eq_false_iff_ne.2 (by omega)
    have hnt := fun W => not_run true W
    have hnf := fun W => not_run false W
    rw [Bool.not_true] at hnt
    rw [Bool.not_false] at hnf
    have HS0 := Lib.hid (show ∀ b, ltr s[0] = b → ltr (s.data.toList[0]'hpos) = b from fun b h => h)
    cases hl : ltr s[0] with
    | false =>
      have HC := Lib.hid (fun W => HL.out s[0] W)
      rw [hl] at HC HS0
      have hw : wl s.data.toList = 0 := by
        have := HS0.out _ rfl
        cases hx : s.data.toList with
        | nil => rfl
        | cons a r =>
          simp only [hx, List.getElem_cons_zero] at this
          rw [wl, this]; rfl
      have HW := Lib.hid hw
      clear hw hl
      generalize wl s.data.toList = q at HW ⊢
      clear HK HS0
      go_enter Tryd.func45, Tryd.ntmps45
      go_wp2_with (go_at_call 31; (with_reducible refine (HC.out _).mono ?_); rintro e w1 ⟨rfl, rfl⟩)
      all_goals first | (exfalso; omega) | skip
      go_ret
      exact ⟨ret_i64 (by rw [HW.out]; rfl), rfl⟩
    | true =>
      have HC0 := Lib.hid (fun W => HL.out s[0] W)
      rw [hl] at HC0 HS0
      have HK2 := Lib.hid (fun k => HK.out k hpos (HS0.out _ rfl))
      clear HK hl
      generalize wl s.data.toList = q at HK2 ⊢
      go_enter Tryd.func45, Tryd.ntmps45
      go_wp2_with (go_at_call 31; (with_reducible refine (HC0.out _).mono ?_); rintro e w1 ⟨rfl, rfl⟩)
      all_goals first | (exfalso; omega) | skip
      clear HC0
      go_loopg [3] (s.size - 1) (fun gg nv wr => ∃ (k : Nat), nv = .int .i64 (k : Int) ∧ 1 ≤ k ∧ k ≤ s.size ∧ gg = s.size - k ∧ Hid (∀ i, ∀ hi : i < s.data.toList.length, 1 ≤ i → i < k → wd s.data.toList[i] = true) ∧ wr = w)
      case atStart => exact ⟨1, rfl, Nat.le_refl _, hpos, rfl, Lib.hid (fun i hi h1 h => absurd h (by omega)), rfl⟩
      case round =>
        obtain ⟨k, rfl, hk1, hk, rfl, HV, rfl⟩ := hrel
        by_cases hlt : k < s.size
        · have HS := Lib.hid (show ∀ b, wd s[k] = b → wd (s.data.toList[k]'hlt) = b from fun b h => h)
          have hwd : wd s[k] = (ltr s[k] || dig s[k]) := rfl
          have HC := Lib.hid (fun W => HL.out s[k] W)
          have HE := Lib.hid (fun W => HD.out s[k] W)
          cases hl : ltr s[k] with
          | true =>
            rw [hl] at HC hwd
            have HN : Hid (∀ i, ∀ hi : i < s.data.toList.length, 1 ≤ i → i < k + 1 → wd s.data.toList[i] = true) := Lib.hid (fun i hi h1 h => by
              rcases Nat.lt_succ_iff_lt_or_eq.1 h with h | rfl
              · exact HV.out i hi h1 h
              · exact HS.out _ hwd)
            clear hl hwd
            go_wp2_with (go_at_call 31; (with_reducible refine (HC.out _).mono ?_); rintro e w1 ⟨rfl, rfl⟩)
            all_goals first | (exfalso; omega) | skip
            go_roundg (s.size - (k + 1))
            case measure => omega
            case rel => exact ⟨k + 1, by go_num, by omega, hlt, rfl, HN, rfl⟩
          | false =>
            rw [hl] at HC hwd
            cases hd : dig s[k] with
            | true =>
              rw [hd] at HE hwd
              have HN : Hid (∀ i, ∀ hi : i < s.data.toList.length, 1 ≤ i → i < k + 1 → wd s.data.toList[i] = true) := Lib.hid (fun i hi h1 h => by
                rcases Nat.lt_succ_iff_lt_or_eq.1 h with h | rfl
                · exact HV.out i hi h1 h
                · exact HS.out _ hwd)
              clear hl hwd hd
              go_wp2_with (first
                | (go_at_call 31; (with_reducible refine (HC.out _).mono ?_); rintro e w1 ⟨rfl, rfl⟩)
                | (go_at_call 32; (with_reducible refine (HE.out _).mono ?_); rintro e w1 ⟨rfl, rfl⟩))
              all_goals first | (exfalso; omega) | skip
              go_roundg (s.size - (k + 1))
              case measure => omega
              case rel => exact ⟨k + 1, by go_num, by omega, hlt, rfl, HN, rfl⟩
            | false =>
              rw [hd] at HE hwd
              have HF := Lib.hid (HK2.out k hk1 HV.out hk (fun _ => HS.out _ hwd))
              clear hl hwd hd
              go_wp2_with (first
                | (go_at_call 31; (with_reducible refine (HC.out _).mono ?_); rintro e w1 ⟨rfl, rfl⟩)
                | (go_at_call 32; (with_reducible refine (HE.out _).mono ?_); rintro e w1 ⟨rfl, rfl⟩))
              all_goals first | (exfalso; omega) | skip
              go_ret
              exact ⟨ret_i64 (by rw [HF.out]), rfl⟩
        · obtain rfl : k = s.size := by omega
          have HF := Lib.hid (HK2.out _ hk1 HV.out hk (fun h => absurd h (Nat.lt_irrefl _)))
          go_wp2
          all_goals first | (exfalso; omega) | (exfalso; rename_i hb _ _; cases hb; done) | (exfalso; rename_i hb _ _ _; cases hb; done) | (exfalso; rename_i hb _ _ _ _; cases hb; done) | skip
          go_ret
          exact ⟨ret_i64 (by rw [HF.out]), rfl⟩
theorem sk_at {l : List UInt8} {k : Nat} (h : k < l.length) (c : Bool) : sk c (l.drop k) = if c = true then (if l[k] == 10 then sk false (l.drop (k + 1)) else sk true (l.drop (k + 1))) else (if ws l[k] then sk false (l.drop (k + 1)) else if l[k] == 47 && l[k + 1]? == some 47 then sk true (l.drop (k + 1)) else l.drop k) := by
  have hd : l.drop k = l[k] :: l.drop (k + 1) := List.drop_eq_getElem_cons h
  have hh : (l.drop (k + 1)).head? = l[k + 1]? := by rw [List.head?_drop]
  cases c
  · rw [if_neg (by simp), hd]
    simp only [sk]
    rw [hh]
  · rw [if_pos rfl, hd]
    simp only [sk]
theorem sk_end {l : List UInt8} {k : Nat} (h : l.length ≤ k) (c : Bool) : sk c (l.drop k) = [] := by
  rw [List.drop_of_length_le h]
  cases c <;> rfl
theorem ws_iff (c : UInt8) : ws c = true ↔ (c.toNat : Int) = 32 ∨ (c.toNat : Int) = 9 ∨ (c.toNat : Int) = 10 ∨ (c.toNat : Int) = 13 := by
  have e : ∀ d : UInt8, c = d ↔ (c.toNat : Int) = (d.toNat : Int) := fun d => ⟨fun h => by rw [h], fun h => UInt8.toNat_inj.1 (by omega)⟩
  simp only [ws, List.contains_cons, List.contains_nil, Bool.or_false, Bool.or_eq_true, beq_iff_eq, e]
  exact Iff.rfl
theorem byte_is (c d : UInt8) : (c == d) = true ↔ (c.toNat : Int) = (d.toNat : Int) := by
  rw [beq_iff_eq]
  exact ⟨fun h => by rw [h], fun h => UInt8.toNat_inj.1 (by omega)⟩
end Go.Proofs.YtcajamgajchheaaDoor
