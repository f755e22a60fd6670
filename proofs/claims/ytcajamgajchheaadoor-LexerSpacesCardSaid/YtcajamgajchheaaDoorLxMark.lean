/-
  LAYER 15 (lexer): mark.
-/
import Derived.Test.YtcajamgajchheaaDoorLxBase
namespace Go.Proofs.YtcajamgajchheaaDoor
open Go Go.RowKit Go.IntWalk
set_option linter.unusedSimpArgs false
set_option linter.unusedVariables false
set_option maxRecDepth 8000

/-! ## mark -/
/-- The length of the longest of some marks that a text begins with. -/
def bst (xs : List UInt8) (l : List (List UInt8)) : Nat := l.foldl (fun n m => if n < m.length ∧ m.isPrefixOf xs = true then m.length else n) 0
theorem bst_succ (xs : List UInt8) {k : Nat} (h : k < 23) : bst xs (mks.take (k + 1)) = if bst xs (mks.take k) < (mks.getD k []).length ∧ (mks.getD k []).isPrefixOf xs = true then (mks.getD k []).length else bst xs (mks.take k) := by
  have hl : k < mks.length := h
  rw [List.take_succ_eq_append_getElem hl, bst, List.foldl_append, List.getD_eq_getElem?_getD, List.getElem?_eq_getElem hl]
  rfl
theorem bst_le (xs : List UInt8) (k : Nat) : k ≤ 23 → bst xs (mks.take k) ≤ xs.length ∧ bst xs (mks.take k) ≤ 2 := by
  induction k with
  | zero => intro _; exact ⟨Nat.zero_le _, Nat.zero_le _⟩
  | succ k ih =>
    intro h
    have := ih (by omega)
    rw [bst_succ xs (by omega)]
    split
    · rename_i h1
      have h2 : (mks.getD k []).length ≤ xs.length := (List.isPrefixOf_iff_prefix.1 h1.2).length_le
      have h3 : ∀ k : Fin 23, (mks.getD k.val []).length ≤ 2 := by decide
      exact ⟨h2, h3 ⟨k, by omega⟩⟩
    · exact this
theorem bst_none (xs : List UInt8) : ∀ l : List (List UInt8), (∀ m ∈ l, m.isPrefixOf xs = false) → bst xs l = 0 := by
  suffices h : ∀ l : List (List UInt8), (∀ m ∈ l, m.isPrefixOf xs = false) → ∀ n, l.foldl (fun n m => if n < m.length ∧ m.isPrefixOf xs = true then m.length else n) n = n from fun l hl => h l hl 0
  intro l
  induction l with
  | nil => intro _ n; rfl
  | cons m l ih =>
    intro h n
    rw [List.foldl_cons, if_neg (by rw [h m (List.mem_cons_self ..)]; simp)]
    exact ih (fun x hx => h x (List.mem_cons_of_mem _ hx)) n
def firsts : List UInt8 := [33, 37, 38, 40, 41, 42, 43, 44, 45, 47, 59, 60, 61, 62, 91, 93, 123, 124, 125]
theorem mks_first : ∀ m ∈ mks, ∃ c t, m = c :: t ∧ c ∈ firsts := by
  intro m hm
  simp only [mks, List.mem_cons, List.not_mem_nil, or_false] at hm
  rcases hm with rfl | rfl | rfl | rfl | rfl | rfl | rfl | rfl | rfl | rfl | rfl | rfl | rfl | rfl | rfl | rfl | rfl | rfl | rfl | rfl | rfl | rfl | rfl <;> exact ⟨_, _, rfl, by decide⟩
theorem bst_out {a : UInt8} (h : a ∉ firsts) (r : List UInt8) : bst (a :: r) mks = 0 :=
  bst_none _ _ fun m hm => by
    obtain ⟨c, t, rfl, hc⟩ := mks_first m hm
    have : (c == a) = false := beq_eq_false_iff_ne.2 (fun e => h (e ▸ hc))
    simp [List.isPrefixOf, this]
theorem bst_all (xs : List UInt8) : bst xs mks = mkl xs := by
  match xs with
  | [] => rfl
  | [a] =>
    by_cases h : a ∈ firsts
    · simp only [firsts, List.mem_cons, List.not_mem_nil, or_false] at h
      rcases h with rfl | rfl | rfl | rfl | rfl | rfl | rfl | rfl | rfl | rfl | rfl | rfl | rfl | rfl | rfl | rfl | rfl | rfl | rfl <;> rfl
    · rw [bst_out h]
      simp only [firsts, List.mem_cons, List.not_mem_nil, or_false, not_or] at h
      simp [mkl, mk1, h]
  | a :: b :: r =>
    by_cases h : a ∈ firsts
    · simp only [firsts, List.mem_cons, List.not_mem_nil, or_false] at h
      rcases h with rfl | rfl | rfl | rfl | rfl | rfl | rfl | rfl | rfl | rfl | rfl | rfl | rfl | rfl | rfl | rfl | rfl | rfl | rfl
      · by_cases hb : b = 61
        · simp [bst, mks, List.isPrefixOf, mkl, mk2, mk1, hb]
        · have hb' : ¬ (61 : UInt8) = b := fun e => hb e.symm
          simp [bst, mks, List.isPrefixOf, mkl, mk2, mk1, hb, hb']
      · simp [bst, mks, List.isPrefixOf, mkl, mk2, mk1]
      · by_cases hb : b = 38
        · simp [bst, mks, List.isPrefixOf, mkl, mk2, mk1, hb]
        · have hb' : ¬ (38 : UInt8) = b := fun e => hb e.symm
          simp [bst, mks, List.isPrefixOf, mkl, mk2, mk1, hb, hb']
      · simp [bst, mks, List.isPrefixOf, mkl, mk2, mk1]
      · simp [bst, mks, List.isPrefixOf, mkl, mk2, mk1]
      · simp [bst, mks, List.isPrefixOf, mkl, mk2, mk1]
      · simp [bst, mks, List.isPrefixOf, mkl, mk2, mk1]
      · simp [bst, mks, List.isPrefixOf, mkl, mk2, mk1]
      · simp [bst, mks, List.isPrefixOf, mkl, mk2, mk1]
      · simp [bst, mks, List.isPrefixOf, mkl, mk2, mk1]
      · simp [bst, mks, List.isPrefixOf, mkl, mk2, mk1]
      · by_cases hb : b = 61
        · simp [bst, mks, List.isPrefixOf, mkl, mk2, mk1, hb]
        · have hb' : ¬ (61 : UInt8) = b := fun e => hb e.symm
          simp [bst, mks, List.isPrefixOf, mkl, mk2, mk1, hb, hb']
      · by_cases hb : b = 61
        · simp [bst, mks, List.isPrefixOf, mkl, mk2, mk1, hb]
        · have hb' : ¬ (61 : UInt8) = b := fun e => hb e.symm
          simp [bst, mks, List.isPrefixOf, mkl, mk2, mk1, hb, hb']
      · by_cases hb : b = 61
        · simp [bst, mks, List.isPrefixOf, mkl, mk2, mk1, hb]
        · have hb' : ¬ (61 : UInt8) = b := fun e => hb e.symm
          simp [bst, mks, List.isPrefixOf, mkl, mk2, mk1, hb, hb']
      · simp [bst, mks, List.isPrefixOf, mkl, mk2, mk1]
      · simp [bst, mks, List.isPrefixOf, mkl, mk2, mk1]
      · simp [bst, mks, List.isPrefixOf, mkl, mk2, mk1]
      · by_cases hb : b = 124
        · simp [bst, mks, List.isPrefixOf, mkl, mk2, mk1, hb]
        · have hb' : ¬ (124 : UInt8) = b := fun e => hb e.symm
          simp [bst, mks, List.isPrefixOf, mkl, mk2, mk1, hb, hb']
      · simp [bst, mks, List.isPrefixOf, mkl, mk2, mk1]
    · rw [bst_out h]
      simp only [firsts, List.mem_cons, List.not_mem_nil, or_false, not_or] at h
      simp [mkl, mk2, mk1, h]
/-- The same over the first k marks (by a name of its own: simp reckons with 'mks.take 23'). -/
def bsk (xs : List UInt8) (k : Nat) : Nat := bst xs (mks.take k)
theorem bsk_all (xs : List UInt8) : bsk xs 23 = mkl xs := by rw [← bst_all]; rfl
theorem bsk_succ (xs : List UInt8) {k : Nat} (h : k < 23) : bsk xs (k + 1) = if bsk xs k < (mks.getD k []).length ∧ (mks.getD k []).isPrefixOf xs = true then (mks.getD k []).length else bsk xs k := bst_succ xs h
theorem bsk_le (xs : List UInt8) (k : Nat) : k ≤ 23 → bsk xs k ≤ xs.length ∧ bsk xs k ≤ 2 := bst_le xs k
theorem bsk_zero (xs : List UInt8) : bsk xs 0 = 0 := rfl
structure AllIs (xs r : List UInt8) : Prop where
  out : xs.take (bsk xs 23) = r
set_option maxHeartbeats 4000000 in
theorem mark_any (s : ByteArray) (w : World) (hE : Env w) : Calls Tryd.prog 44 #[.string s] w fun e w' => e = .returned (.string ⟨(s.data.toList.take (mkl s.data.toList)).toArray⟩) ∧ Grew w w' := by
  have HALL := Lib.hid (AllIs.mk (show s.data.toList.take (bsk s.data.toList 23) = s.data.toList.take (mkl s.data.toList) by rw [bsk_all]))
  generalize s.data.toList.take (mkl s.data.toList) = r at HALL ⊢
  have HS := Lib.hid (fun k h => bsk_succ s.data.toList (k := k) h)
  have HL := Lib.hid (bsk_le s.data.toList)
  have HP := Lib.hid (fun (m : ByteArray) W => Tryd.strings_HasPrefix s m W)
  have HPD := Lib.hid (fun (m : ByteArray) (h : m.data.toList.isPrefixOf s.data.toList = true) => (show m = ⟨(s.data.toList.take m.size).toArray⟩ from by
    have h1 : s.data.toList.take m.size = m.data.toList := (List.prefix_iff_eq_take.1 (List.isPrefixOf_iff_prefix.1 h)).symm
    rw [h1]))
  go_enter Tryd.func44, Tryd.ntmps44
  go_upto_region 2 with fail
  refine wp_region_list ?_
  refine wpList_load_mid rfl 64 (.global 1) rfl 1 0 rfl (mks.map (fun l => Value.string ⟨l.toArray⟩)) _ hE.rangeM Tryd.underlying64 rfl (by kernel_rfl) ?_
  have HIX := Lib.hid index_mk
  generalize Value.agg (mks.map (fun l => Value.string ⟨l.toArray⟩)).toArray = TAB at HIX ⊢
  clear hE
  go_wp2
  go_loopg [3, 7] 23 (fun gg fv iv wr => ∃ (j : Nat) (f : ByteArray), fv = .string f ∧ iv = .int .i64 (j : Int) ∧ j ≤ 23 ∧ gg = 23 - j ∧ f.size ≤ 2 ∧ Hid (f.size = bsk s.data.toList j) ∧ Hid (f = ⟨(s.data.toList.take f.size).toArray⟩) ∧ Hid (Grew w wr))
  case atStart => exact ⟨0, ⟨#[]⟩, rfl, rfl, by omega, rfl, Nat.zero_le _, Lib.hid rfl, Lib.hid rfl, Lib.hid (Grew.refl _)⟩
  case round =>
    obtain ⟨j, f, rfl, rfl, hj, rfl, hn2, HN, HF, HB⟩ := hrel
    by_cases hlt : j < 23
    · have hx := fun W => HIX.out j hlt W
      have HJ := Lib.hid hlt
      have HST := Lib.hid (HS.out j hlt)
      have HLE := Lib.hid (HL.out (j + 1) hlt)
      obtain ⟨t, ht⟩ : ∃ t : ByteArray, (⟨(mks.getD j []).toArray⟩ : ByteArray) = t := ⟨_, rfl⟩
      have ht2 : mks.getD j [] = t.data.toList := by rw [← ht]
      have ht3 : (mks.getD j []).length = t.size := by rw [← ht]; rfl
      have htl : t.size ≤ 100 := by
        have h3 : ∀ k : Fin 23, (mks.getD k.val []).length ≤ 2 := by decide
        have := h3 ⟨j, hlt⟩
        rw [← ht3]
        exact Nat.le_trans this (by decide)
      rw [ht] at hx
      rw [ht3, ht2] at HST
      have HC := Lib.hid (fun W => HP.out t W)
      clear ht ht2 ht3
      by_cases hl : f.size < t.size
      · have hl1 : (f.size : Int) < (t.size : Int) := by omega
        cases hp : t.data.toList.isPrefixOf s.data.toList with
        | true =>
          have HP2 := Lib.hid (HPD.out t hp)
          have hc : Lib.hasPrefix s.data.toList t.data.toList = true := hp
          rw [hc] at HC
          have HNX : Hid (t.size = bsk s.data.toList (j + 1)) := Lib.hid (by rw [HST.out, ← HN.out, if_pos ⟨hl, hp⟩])
          have hle : t.size ≤ 2 := by rw [HNX.out]; exact HLE.out.2
          clear hc hp
          go_wp2_with (go_at_call 38; (with_reducible refine (HC.out _).mono ?_); rintro e w1 ⟨rfl, hw1⟩; subst w1)
          all_goals first | (exfalso; omega) | skip
          go_roundg (23 - (j + 1))
          case measure => have := HJ.out; omega
          case rel => exact ⟨j + 1, t, rfl, by go_num, HJ.out, rfl, hle, HNX, HP2, HB⟩
        | false =>
          have hc : Lib.hasPrefix s.data.toList t.data.toList = false := hp
          rw [hc] at HC
          have HNX : Hid (f.size = bsk s.data.toList (j + 1)) := Lib.hid (by rw [HST.out, ← HN.out, if_neg (by rw [hp]; simp)])
          clear hc hp
          go_wp2_with (go_at_call 38; (with_reducible refine (HC.out _).mono ?_); rintro e w1 ⟨rfl, hw1⟩; subst w1)
          all_goals first | (exfalso; omega) | skip
          go_roundg (23 - (j + 1))
          case measure => have := HJ.out; omega
          case rel => exact ⟨j + 1, f, rfl, by go_num, HJ.out, rfl, hn2, HNX, HF, HB⟩
      · have HNX : Hid (f.size = bsk s.data.toList (j + 1)) := Lib.hid (by rw [HST.out, ← HN.out, if_neg (fun h => hl h.1)])
        go_wp2
        all_goals first | (exfalso; omega) | skip
        go_roundg (23 - (j + 1))
        case measure => have := HJ.out; omega
        case rel => exact ⟨j + 1, f, rfl, by go_num, HJ.out, rfl, hn2, HNX, HF, HB⟩
    · obtain rfl : j = 23 := by omega
      have HR : Hid (f = ⟨r.toArray⟩) := Lib.hid (by rw [HF.out, HN.out, HALL.out.out])
      go_wp2
      go_ret
      exact ⟨ret_string HR.out, HB.out⟩
end Go.Proofs.YtcajamgajchheaaDoor
