/-
  LAYER 15 (lexer): skipped.
-/
import Derived.Test.YtcajamgajchheaaDoorLxNumP
import Derived.Test.YtcajamgajchheaaDoorLxBlank
namespace Go.Proofs.YtcajamgajchheaaDoor
open Go Go.RowKit Go.IntWalk
set_option linter.unusedSimpArgs false
set_option linter.unusedVariables false
set_option maxRecDepth 8000

theorem dw_head (p : UInt8 → Bool) (l : List UInt8) : hd p (l.dropWhile p) = false := by
  induction l with
  | nil => rfl
  | cons a r ih =>
    rw [List.dropWhile_cons]
    split
    · exact ih
    · rename_i h
      exact Bool.eq_false_iff.2 h
theorem skip_fix {l : List UInt8} (h : hd ws l = false) (h2 : ([47, 47] : List UInt8).isPrefixOf l = false) : sk false l = l := by
  match l with
  | [] => rfl
  | [a] => exact sk_fix.2 ⟨h, by simp⟩
  | a :: b :: r =>
    refine sk_fix.2 ⟨h, ?_⟩
    rw [Bool.eq_false_iff] at h2 ⊢
    intro h3
    apply h2
    obtain ⟨e1, e2⟩ := Bool.and_eq_true_iff.1 h3
    rw [eq_of_beq e1, show b = 47 by simpa using e2]
    rfl
theorem skip_com {l : List UInt8} (h2 : ([47, 47] : List UInt8).isPrefixOf l = true) : sk false l = sk true l ∧ ∃ r, l = 47 :: 47 :: r := by
  obtain ⟨r, rfl⟩ := List.isPrefixOf_iff_prefix.1 h2
  exact ⟨rfl, r, rfl⟩
theorem index_drop : ∀ (l : List UInt8), (Lib.indexByte l 10 = -1 → l.dropWhile (fun b => b != 10) = []) ∧ ∀ o : Nat, Lib.indexByte l 10 = o → l.dropWhile (fun b => b != 10) = l.drop o ∧ o < l.length := by
  intro l
  constructor
  · intro h
    have h1 := Lib.indexByte_none h
    induction l with
    | nil => rfl
    | cons a r ih =>
      have h2 := h1 0
      have h3 : (a != 10) = true := by
        rw [bne_iff_ne]
        rintro rfl
        exact h2 rfl
      rw [List.dropWhile_cons, if_pos h3]
      have h4 : Lib.indexByte r 10 = -1 := by
        have h5 := Lib.indexByte_ge r 10
        rcases Int.lt_or_le (Lib.indexByte r 10) 0 with h6 | h6
        · omega
        · obtain ⟨o, ho⟩ : ∃ o : Nat, Lib.indexByte r 10 = o := ⟨(Lib.indexByte r 10).toNat, by omega⟩
          exact absurd (Lib.indexByte_some ho).1 (h1 (o + 1))
      exact ih h4 (fun k => h1 (k + 1))
  · intro o h
    obtain ⟨h1, h2⟩ := Lib.indexByte_some h
    refine ⟨?_, (List.getElem?_eq_some_iff.1 h1).1⟩
    clear h
    induction o generalizing l with
    | zero =>
      cases l with
      | nil => simp at h1
      | cons a r =>
        have : a = 10 := by simpa using h1
        subst this
        rfl
    | succ o ih =>
      cases l with
      | nil => simp at h1
      | cons a r =>
        have h3 : (a != 10) = true := by
          rw [bne_iff_ne]
          rintro rfl
          exact h2 0 (by omega) rfl
        rw [List.dropWhile_cons, if_pos h3, List.drop_succ_cons]
        exact ih r (by simpa using h1) (fun k hk => by have := h2 (k + 1) (by omega); simpa using this)
/-- What TrimLeft leaves of a text. -/
def tw (s : ByteArray) : ByteArray := ⟨(s.data.toList.dropWhile ws).toArray⟩
theorem tw_list (s : ByteArray) : (tw s).data.toList = s.data.toList.dropWhile ws := rfl
theorem tw_size (s : ByteArray) : (tw s).size ≤ s.size := dw_le ws s.data.toList
theorem extract_drop' (s : ByteArray) (k : Nat) : (s.extract k s.size).data.toList = s.data.toList.drop k := by
  rw [Lib.extract_eq]
  exact List.take_of_length_le (by rw [List.length_drop]; exact Nat.le_refl _)
set_option maxHeartbeats 4000000 in
theorem skipped_any (s : ByteArray) (hs : s.size ≤ 100000) (w : World) : Calls Tryd.prog 26 #[.string s] w fun e w' => e = .returned (.int .i64 (bl s.data.toList : Nat)) ∧ Grew w w' := by
  have HT := Lib.hid (fun (X : ByteArray) W => (show Calls Tryd.prog 37 #[.string X, .string setW] W fun e w' => e = .returned (.string (tw X)) ∧ Grew W w' from trim_any isW X W))
  have HP := Lib.hid (fun (X : ByteArray) W => Tryd.strings_HasPrefix X ⟨#[47, 47]⟩ W)
  have HI := Lib.hid (fun (X : ByteArray) W => Tryd.strings_IndexByte X 10 W)
  have HSK : Hid (sk false (tw s).data.toList = sk false s.data.toList) := Lib.hid (sk_ws _)
  have HHD : Hid (hd ws (tw s).data.toList = false) := Lib.hid (dw_head ws _)
  have HSZ := tw_size s
  have HBL := Lib.hid (show ∀ R : ByteArray, sk false R.data.toList = sk false s.data.toList → sk false R.data.toList = R.data.toList → s.size - R.size = bl s.data.toList from fun R h1 h2 => by
    rw [bl, ← h1, h2]; rfl)
  have HBN := Lib.hid (show sk false s.data.toList = [] → s.size = bl s.data.toList from fun h => by rw [bl, h]; rfl)
  obtain ⟨Y, hY⟩ : ∃ Y, sk false s.data.toList = Y := ⟨_, rfl⟩
  rw [hY] at HSK HBL HBN
  clear hY
  generalize bl s.data.toList = q at HBL HBN ⊢
  obtain ⟨R0, hR0⟩ : ∃ R, tw s = R := ⟨_, rfl⟩
  rw [hR0] at HSK HHD HSZ
  have HT0 := Lib.hid (fun W => HT.out s W)
  rw [hR0] at HT0
  clear hR0
  go_enter Tryd.func26, Tryd.ntmps26
  go_wp2_with (go_at_call 37; (with_reducible refine (HT0.out _).mono ?_); rintro e w1 ⟨rfl, g1⟩; have HG := Lib.hid g1; clear g1)
  clear HT0
  go_loopg [3, 4] R0.size (fun gg rv uv wr => ∃ R : ByteArray, rv = .string R ∧ gg = R.size ∧ R.size ≤ s.size ∧ Hid (sk false R.data.toList = Y) ∧ Hid (hd ws R.data.toList = false) ∧ Hid (Grew w wr))
  case atStart => exact ⟨R0, rfl, rfl, HSZ, HSK, HHD, HG⟩
  case round =>
    obtain ⟨R, rfl, rfl, hR, HK, HD, HB⟩ := hrel
    have HC := Lib.hid (fun W => HP.out R W)
    cases hp : Lib.hasPrefix R.data.toList (⟨#[47, 47]⟩ : ByteArray).data.toList with
    | false =>
      have HF := Lib.hid (HBL.out R HK.out (skip_fix HD.out hp))
      rw [hp] at HC
      clear hp
      go_wp2_with (go_at_call 38; (with_reducible refine (HC.out _).mono ?_); rintro e w2 ⟨rfl, hw2⟩; subst w2)
      go_ret
      exact ⟨ret_i64 (by rw [← HF.out]; omega), HB.out⟩
    | true =>
      obtain ⟨hsk, r, hr⟩ := skip_com hp
      have hix := index_drop R.data.toList
      have HJ := Lib.hid (fun W => HI.out R W)
      rw [show ((10 : Int).toNat.toUInt8) = 10 from rfl] at HJ
      rw [hp] at HC
      clear hp
      by_cases h1 : Lib.indexByte R.data.toList 10 = -1
      · rw [h1] at HJ
        have HF := Lib.hid (HBN.out (by rw [← HK.out, hsk, sk_com, hix.1 h1]; rfl))
        clear hix h1 hsk hr
        go_wp2_with (first
          | (go_at_call 38; (with_reducible refine (HC.out _).mono ?_); rintro e w2 ⟨rfl, hw2⟩; subst w2)
          | (go_at_call 39; (with_reducible refine (HJ.out _).mono ?_); rintro e w2 ⟨rfl, hw2⟩; subst w2))
        go_ret
        exact ⟨ret_i64 (by rw [HF.out]), HB.out⟩
      · have h0 := Lib.indexByte_ge R.data.toList 10
        obtain ⟨o, ho⟩ : ∃ o : Nat, Lib.indexByte R.data.toList 10 = o := ⟨(Lib.indexByte R.data.toList 10).toNat, by omega⟩
        obtain ⟨hd1, hd2⟩ := hix.2 o ho
        have hoR : o < R.size := hd2
        have ho1 : 0 < o := Nat.pos_of_ne_zero (fun h => by
          have h5 := (Lib.indexByte_some ho).1
          rw [h, hr] at h5
          simp at h5)
        rw [ho] at HJ
        have HT1 := Lib.hid (fun W => HT.out (R.extract o R.size) W)
        have hz : (R.extract o R.size).size = R.size - o := by simp
        have hsz := tw_size (R.extract o R.size)
        have HK2 : Hid (sk false (tw (R.extract o R.size)).data.toList = Y) := Lib.hid (by
          rw [tw_list, sk_ws, extract_drop', ← HK.out, hsk, sk_com, hd1])
        have HD2 : Hid (hd ws (tw (R.extract o R.size)).data.toList = false) := Lib.hid (dw_head ws _)
        rw [hz] at hsz
        obtain ⟨R2, hR2⟩ : ∃ R2, tw (R.extract o R.size) = R2 := ⟨_, rfl⟩
        rw [hR2] at HT1 HK2 HD2 hsz
        clear hR2 hz hix h1 h0 ho hd1 hd2 hsk hr
        go_wp2_with (first
          | (go_at_call 38; (with_reducible refine (HC.out _).mono ?_); rintro e w2 ⟨rfl, hw2⟩; subst w2)
          | (go_at_call 39; (with_reducible refine (HJ.out _).mono ?_); rintro e w2 ⟨rfl, hw2⟩; subst w2)
          | (go_at_call 37; (with_reducible refine (HT1.out _).mono ?_); rintro e w3 ⟨rfl, g3⟩; have HG3 := Lib.hid (HB.out.trans g3); clear g3))
        go_roundg R2.size
        case measure => omega
        case rel => exact ⟨R2, rfl, rfl, by omega, HK2, HD2, HG3⟩
end Go.Proofs.YtcajamgajchheaaDoor
