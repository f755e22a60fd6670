/-
  DECIMAL NUMERALS (any program): digits, what they spell, what strconv.ParseInt makes of them at every size, cuts at one byte. Nothing of the program stands here.
-/
import Derived.IntWalk
import Derived.Laws.BitsAllLaws
import Derived.Lib.ItoaNum
import Derived.Lib.ItoaMem
import Derived.Lib.ParseIntB
import Derived.Lib.ItoaLen
import Derived.Lib.CutLaws
import Derived.Lib.IndexLaws
namespace Go.Proofs.YtcajamgajchheaaDoor
open Go
open Go.Lib (decDigits itoa parseUintM parseUintB parseIntB nDigits NumEnd)

theorem ret_bool {a b : Bool} (h : a = b) : Ending.returned (.bool a) = .returned (.bool b) := by rw [h]
theorem ret_i64 {a b : Int} (h : a = b) : Ending.returned (.int .i64 a) = .returned (.int .i64 b) := by rw [h]
theorem ret_i16 {a b : Int} (h : a = b) : Ending.returned (.int .i16 a) = .returned (.int .i16 b) := by rw [h]
theorem ret_string {a b : ByteArray} (h : a = b) : Ending.returned (.string a) = .returned (.string b) := by rw [h]
theorem str_append (a b : List UInt8) : (⟨a.toArray⟩ : ByteArray) ++ ⟨b.toArray⟩ = ⟨(a ++ b).toArray⟩ := by
  apply ByteArray.ext; simp

theorem digit_toNat {d : Nat} (h : d < 10) : (UInt8.ofNat (48 + d)).toNat = 48 + d := by
  rw [UInt8.toNat_ofNat']; omega
theorem decDigits_digit (u : Nat) : ∀ c ∈ decDigits u, 48 ≤ c.toNat ∧ c.toNat ≤ 57 := by
  induction u using Nat.strongRecOn with
  | _ u ih =>
    intro c hc
    rw [decDigits] at hc
    split at hc
    · rename_i h
      obtain rfl : c = UInt8.ofNat (48 + u) := by simpa using hc
      rw [digit_toNat h]; omega
    · rename_i h
      rcases List.mem_append.1 hc with hc | hc
      · exact ih _ (by omega) c hc
      · obtain rfl : c = UInt8.ofNat (48 + u % 10) := by simpa using hc
        rw [digit_toNat (Nat.mod_lt _ (by omega))]; omega
theorem decDigits_ne (u : Nat) : decDigits u ≠ [] := by
  intro h
  have := Lib.decDigits_length u
  rw [h] at this
  have := Lib.nDigits_pos u
  simp at *
  omega
theorem decDigits_pow (u : Nat) : ∀ k, u < 10 ^ (k + 1) → (decDigits u).length ≤ k + 1 := by
  intro k
  induction k generalizing u with
  | zero => intro h; rw [Lib.decDigits_length, Lib.nDigits_small (by omega)]; omega
  | succ k ih =>
    intro h
    by_cases hu : u < 10
    · rw [Lib.decDigits_length, Lib.nDigits_small hu]; omega
    · have h2 : u / 10 < 10 ^ (k + 1) := by
        rw [Nat.pow_succ] at h
        exact Nat.div_lt_of_lt_mul (by omega)
      have := ih (u / 10) h2
      rw [Lib.decDigits_length] at this ⊢
      rw [Lib.nDigits_big hu]
      omega

/-- The number that a row of digits spells behind what stands before. -/
def dval (acc : Nat) : List UInt8 → Nat
  | [] => acc
  | c :: r => dval (10 * acc + (c.toNat - 48)) r
theorem dval_append (acc : Nat) (l r : List UInt8) : dval acc (l ++ r) = dval (dval acc l) r := by
  induction l generalizing acc with
  | nil => rfl
  | cons c l ih => exact ih _
theorem dval_decDigits (u : Nat) : dval 0 (decDigits u) = u := by
  induction u using Nat.strongRecOn with
  | _ u ih =>
    by_cases h : u < 10
    · have e : decDigits u = [UInt8.ofNat (48 + u)] := by rw [decDigits, dif_pos h]
      have d := digit_toNat h
      rw [e]
      show 10 * 0 + ((UInt8.ofNat (48 + u)).toNat - 48) = u
      omega
    · have e : decDigits u = decDigits (u / 10) ++ [UInt8.ofNat (48 + u % 10)] := by rw [decDigits, dif_neg h]
      have d := digit_toNat (Nat.mod_lt u (show 10 > 0 by omega))
      rw [e, dval_append, ih _ (by omega)]
      show 10 * (u / 10) + ((UInt8.ofNat (48 + u % 10)).toNat - 48) = u
      omega
theorem decDigits_inj {a b : Nat} (h : decDigits a = decDigits b) : a = b := by rw [← dval_decDigits a, h, dval_decDigits]
theorem dval_bd (l : List UInt8) (h : ∀ c ∈ l, 48 ≤ c.toNat ∧ c.toNat ≤ 57) (acc : Nat) : dval acc l < (acc + 1) * 10 ^ l.length := by
  induction l generalizing acc with
  | nil => show acc < (acc + 1) * 1; omega
  | cons c r ih =>
    have hc := h c (by simp)
    have h1 := ih (fun x hx => h x (by simp [hx])) (10 * acc + (c.toNat - 48))
    have h2 : (10 * acc + (c.toNat - 48) + 1) * 10 ^ r.length ≤ (acc + 1) * 10 * 10 ^ r.length := Nat.mul_le_mul_right _ (by omega)
    have h3 : (acc + 1) * 10 ^ (c :: r).length = (acc + 1) * 10 * 10 ^ r.length := by
      rw [List.length_cons, Nat.pow_succ, Nat.mul_comm (10 ^ r.length) 10, Nat.mul_assoc]
    rw [h3]
    exact Nat.lt_of_lt_of_le h1 h2
theorem dval_le15 (l : List UInt8) (h : ∀ c ∈ l, 48 ≤ c.toNat ∧ c.toNat ≤ 57) (hk : l.length ≤ 15) : dval 0 l ≤ 999999999999999 := by
  have h1 := dval_bd l h 0
  have h2 : 10 ^ l.length ≤ 10 ^ 15 := Nat.pow_le_pow_right (by omega) hk
  omega
theorem dval_ge (acc : Nat) (l : List UInt8) : acc ≤ dval acc l := by
  induction l generalizing acc with
  | nil => exact Nat.le_refl _
  | cons c r ih => exact Nat.le_trans (by omega) (ih (10 * acc + (c.toNat - 48)))
theorem dval_take (acc : Nat) (l : List UInt8) (k : Nat) : dval acc (l.take k) ≤ dval acc l := by
  conv => rhs; rw [← List.take_append_drop k l, dval_append]
  exact dval_ge _ _
theorem take_snoc (s : ByteArray) (k : Nat) (h : k < s.size) : s.data.toList.take (k + 1) = s.data.toList.take k ++ [s[k]] := by
  rw [List.take_succ_eq_append_getElem (by simpa using h)]; rfl
theorem dval_snoc (l : List UInt8) (c : UInt8) : dval 0 (l ++ [c]) = 10 * dval 0 l + (c.toNat - 48) := by rw [dval_append]; rfl

theorem parseUintM_digits (M acc : Nat) (l : List UInt8) (h : ∀ c ∈ l, 48 ≤ c.toNat ∧ c.toNat ≤ 57) (hM : M ≤ 18446744073709551615) (mono : ∀ k, dval acc (l.take k) ≤ M) :
    parseUintM M acc l = .ok (dval acc l) := by
  induction l generalizing acc with
  | nil => rfl
  | cons c r ih =>
    have hc := h c (by simp)
    have h0 : acc ≤ M := mono 0
    have h1 : 10 * acc + (c.toNat - 48) ≤ M := mono 1
    rw [parseUintM, if_pos hc, if_neg (by omega), if_neg (by omega), Nat.mul_comm acc 10]
    exact ih _ (fun x hx => h x (by simp [hx])) (fun k => mono (k + 1))
theorem pow_le64 {B : Nat} (hB : B ≤ 64) : 2 ^ B - 1 ≤ 18446744073709551615 := by
  have : 2 ^ B ≤ 2 ^ 64 := Nat.pow_le_pow_right (by omega) hB
  omega
theorem parseUint_dec (B u : Nat) (hB : B ≤ 64) (h : u ≤ 2 ^ B - 1) : parseUintB B (decDigits u) = .ok u := by
  rw [parseUintB, if_neg (decDigits_ne u)]
  have := parseUintM_digits (2 ^ B - 1) 0 (decDigits u) (decDigits_digit u) (pow_le64 hB) (fun k => Nat.le_trans (dval_take _ _ _) (by rw [dval_decDigits]; exact h))
  rw [this, dval_decDigits]
theorem pow_half {B : Nat} (hB : 1 ≤ B) : 2 ^ B = 2 * 2 ^ (B - 1) ∧ 1 ≤ 2 ^ (B - 1) := by
  obtain ⟨k, rfl⟩ : ∃ k, B = k + 1 := ⟨B - 1, by omega⟩
  exact ⟨by rw [Nat.pow_succ, Nat.add_sub_cancel, Nat.mul_comm], Nat.one_le_two_pow⟩
theorem parse_itoa (B : Nat) (hB : 1 ≤ B ∧ B ≤ 64) (v : Int) (h0 : -((2 ^ (B - 1) : Nat) : Int) ≤ v) (h1 : v < ((2 ^ (B - 1) : Nat) : Int)) : parseIntB B (itoa v) = .ok v := by
  obtain ⟨e1, e2⟩ := pow_half hB.1
  have hp := fun u hu => parseUint_dec B u hB.2 hu
  rw [e1] at hp
  by_cases hv : v < 0
  · obtain ⟨u, rfl⟩ : ∃ u : Nat, v = -(u : Int) := ⟨v.natAbs, by omega⟩
    rw [Lib.itoa_neg u (by omega), parseIntB]
    have e45 : (45 : UInt8).toNat = 45 := rfl
    generalize 2 ^ (B - 1) = K at *
    simp only [e45, or_true, if_true]
    rw [hp u (by omega)]
    simp
    omega
  · obtain ⟨u, rfl⟩ : ∃ u : Nat, v = u := ⟨v.toNat, by omega⟩
    rw [Lib.itoa_nonneg u]
    have hd := decDigits_digit u
    have hq := hp u (by omega)
    clear hp
    cases hl : decDigits u with
    | nil => exact absurd hl (decDigits_ne u)
    | cons c r =>
      rw [hl] at hd hq
      have hc := hd c (by simp)
      simp only [parseIntB]
      generalize 2 ^ (B - 1) = K at *
      have n45 : ¬ c.toNat = 45 := by omega
      have n43 : ¬ c.toNat = 43 := by omega
      simp only [n45, n43, or_self, if_false, hq]
      simp
      omega
theorem parsed_bd {B : Nat} {l : List UInt8} {v : Int} (h : parseIntB B l = .ok v) : -((2 ^ (B - 1) : Nat) : Int) ≤ v ∧ v < ((2 ^ (B - 1) : Nat) : Int) := by
  unfold parseIntB at h
  split at h
  · cases h
  · rename_i c r
    dsimp only at h
    split at h
    · cases h
    · cases h
    · rename_i u hu
      by_cases hn : c.toNat = 45
      · simp only [hn, not_true_eq_false, false_and, if_false, true_and, if_true] at h
        split at h
        · cases h
        · injection h with h
          have : 1 ≤ 2 ^ (B - 1) := Nat.one_le_two_pow
          omega
      · simp only [hn, not_false_eq_true, true_and, if_false, false_and] at h
        split at h
        · cases h
        · injection h with h; omega
theorem parse_nil (B : Nat) : parseIntB B [] = .syntax := rfl
theorem itoa_mem {v : Int} {c : UInt8} (h : c ∈ itoa v) : c.toNat = 45 ∨ (48 ≤ c.toNat ∧ c.toNat ≤ 57) := by
  unfold itoa at h
  split at h
  · rcases List.mem_cons.1 h with rfl | h
    · exact .inl rfl
    · exact .inr (decDigits_digit _ c h)
  · exact .inr (decDigits_digit _ c h)
theorem itoa_no {v : Int} {c : UInt8} (h : c.toNat < 45) : c ∉ itoa v := fun hc => by
  rcases itoa_mem hc with h1 | h1 <;> omega
theorem itoa_ne (v : Int) : itoa v ≠ [] := by
  unfold itoa
  split
  · simp
  · exact decDigits_ne _
theorem itoa_inj {a b : Int} (h : itoa a = itoa b) : a = b := by
  unfold itoa at h
  split at h <;> split at h
  · injection h with _ h
    have := decDigits_inj h
    omega
  · have := decDigits_digit _ 45 (by rw [← h]; simp)
    exact absurd this.1 (by decide)
  · have := decDigits_digit _ 45 (by rw [h]; simp)
    exact absurd this.1 (by decide)
  · have := decDigits_inj h
    omega

/-! ### Cuts at one byte -/
theorem split_one {α : Type} {c : α} {a b r t : List α} (h : a ++ c :: r = b ++ c :: t) (ha : c ∉ a) (hb : c ∉ b) : a = b ∧ r = t := by
  induction a generalizing b with
  | nil =>
    cases b with
    | nil => simpa using h
    | cons y b =>
      simp only [List.nil_append, List.cons_append, List.cons.injEq] at h
      exact absurd (by rw [h.1]; simp) hb
  | cons x a ih =>
    cases b with
    | nil =>
      simp only [List.nil_append, List.cons_append, List.cons.injEq] at h
      exact absurd (by rw [h.1]; simp) ha
    | cons y b =>
      simp only [List.cons_append, List.cons.injEq] at h
      obtain ⟨e1, e2⟩ := ih h.2 (fun hc => ha (List.mem_cons_of_mem _ hc)) (fun hc => hb (List.mem_cons_of_mem _ hc))
      exact ⟨by rw [h.1, e1], e2⟩
theorem occ_one (l : List UInt8) (c : UInt8) (j : Nat) : Lib.occAt l [c] j = (l[j]? == some c) := by
  unfold Lib.occAt
  rcases Nat.lt_or_ge j l.length with h | h
  · rw [List.drop_eq_getElem_cons h, List.getElem?_eq_getElem h]
    simp only [List.isPrefixOf]
    by_cases e : c = l[j]
    · rw [← e]; simp
    · have e1 : (c == l[j]) = false := beq_eq_false_iff_ne.2 e
      have e2 : (l[j] == c) = false := beq_eq_false_iff_ne.2 fun h => e h.symm
      simp [e1, e2]
  · rw [List.drop_eq_nil_of_le h, List.getElem?_eq_none h]
    rfl
/-- What strings.Cut makes at a separator of one byte. -/
theorem cut_one (l : List UInt8) (c : UInt8) : (c ∉ l ∧ Lib.cut l [c] = (l, [], false)) ∨ ∃ a b, l = a ++ c :: b ∧ c ∉ a ∧ Lib.cut l [c] = (a, b, true) := by
  by_cases h : c ∈ l
  · obtain ⟨a, b, rfl, ha⟩ := List.eq_append_cons_of_mem h
    refine .inr ⟨a, b, rfl, ha, ?_⟩
    have hi : Lib.index (a ++ c :: b) [c] = a.length := Lib.index_first (by simp) (by rw [occ_one]; simp) (fun j hj => by
      rw [occ_one, List.getElem?_append_left hj, List.getElem?_eq_getElem hj]
      simp only [beq_eq_false_iff_ne, ne_eq, Option.some.injEq]
      exact fun e => ha (e ▸ List.getElem_mem hj))
    unfold Lib.cut
    rw [hi, if_pos (by omega)]
    simp
  · refine .inl ⟨h, ?_⟩
    have hi : Lib.index l [c] = -1 := Lib.index_none (fun j hj => by
      rw [occ_one]
      simp only [beq_eq_false_iff_ne, ne_eq]
      exact fun e => h (List.mem_of_getElem? e))
    unfold Lib.cut
    rw [hi, if_neg (by omega)]
end Go.Proofs.YtcajamgajchheaaDoor
