/-
  PLAIN MATHEMATICS FOR LAYER 1 (word): 16-bit wrapping, truncated quotient and remainder, decimal numerals and what 'Parse' reads. Nothing of the program stands here.
-/
import Derived.IntWalk
import Derived.Laws.BitsAllLaws
import Derived.Lib.ItoaNum
import Derived.Lib.ItoaMem
import Derived.Lib.ParseIntB
import Derived.Lib.ItoaLen
namespace Go.Proofs.YtelniailmfbinaaDoor
open Go

/-- The word that is congruent to n modulo 2^16. -/
def w16 (n : Int) : Int := (n + 32768) % 65536 - 32768
theorem wrap_i16 (n : Int) : IntKind.i16.wrap n = w16 n := by
  simp only [IntKind.wrap, IntKind.bits, IntKind.signed, w16]; simp; split <;> omega
theorem w16_in (n : Int) (h : -32768 ≤ n ∧ n ≤ 32767) : w16 n = n := by unfold w16; omega
theorem w16_bd (n : Int) : -32768 ≤ w16 n ∧ w16 n ≤ 32767 := by unfold w16; omega
theorem w16_w16 (n : Int) : w16 (w16 n) = w16 n := w16_in _ (w16_bd n)

/-- The truncated quotient, 0 for the divisor 0. -/
def quo (a b : Int) : Int := if b = 0 then 0 else a.tdiv b
/-- The remainder of the truncated division, 0 for the divisor 0. -/
def rem (a b : Int) : Int := if b = 0 then 0 else a.tmod b

theorem tmod_bd (a b : Int) (hb : b ≠ 0) : -(b.natAbs : Int) < a.tmod b ∧ a.tmod b < b.natAbs := by
  have h1 := Int.natAbs_tmod a b
  have h2 : a.natAbs % b.natAbs < b.natAbs := Nat.mod_lt _ (by omega)
  omega
theorem tdiv_bd (a b : Int) : -(a.natAbs : Int) ≤ a.tdiv b ∧ a.tdiv b ≤ a.natAbs := by
  have h1 := Int.natAbs_tdiv a b
  have h2 : a.natAbs.div b.natAbs ≤ a.natAbs := Nat.div_le_self _ _
  omega
theorem sub_quo (a b : Int) : a - b * a.tdiv b = a.tmod b := by
  have := Int.tmod_add_mul_tdiv a b
  omega
theorem quo_bd (a b : Int) (ha : -32768 ≤ a ∧ a ≤ 32767) : -32768 ≤ quo a b ∧ quo a b ≤ 32768 := by
  unfold quo; split
  · omega
  · have := tdiv_bd a b; omega
theorem rem_bd (a b : Int) (hb : -32768 ≤ b ∧ b ≤ 32767) : -32768 ≤ rem a b ∧ rem a b ≤ 32767 := by
  unfold rem; split
  · omega
  · rename_i h; have := tmod_bd a b h; omega
theorem w16_rem (a b : Int) (hb : -32768 ≤ b ∧ b ≤ 32767) : w16 (rem a b) = rem a b := w16_in _ (rem_bd a b hb)
theorem mul_bd (a b : Int) (ha : -32768 ≤ a ∧ a ≤ 32767) (hb : -32768 ≤ b ∧ b ≤ 32768) : -1073741824 ≤ a * b ∧ a * b ≤ 1073741824 := by
  have h1 : (a * b).natAbs = a.natAbs * b.natAbs := Int.natAbs_mul a b
  have h2 : a.natAbs * b.natAbs ≤ 32768 * 32768 := Nat.mul_le_mul (by omega) (by omega)
  omega

theorem tmod_neg (n m : Int) (h : n < 0) : n.tmod m = -((-n) % m) := by
  have : n = -(-n) := by omega
  rw [this, Int.neg_tmod, Int.tmod_eq_emod_of_nonneg (by omega), Int.neg_neg]
theorem w16_of_neg (n : Int) (h : n < 0) : w16 n = w16 (n.tmod 65536) ∧ -65536 < n.tmod 65536 ∧ n.tmod 65536 ≤ 0 := by
  rw [tmod_neg n 65536 h]; unfold w16; omega
theorem w16_of_nonneg (n : Int) : w16 n = w16 (n % 65536) := by unfold w16; omega
theorem ret_i16 {a b : Int} (h : a = b) : Ending.returned (.int .i16 a) = .returned (.int .i16 b) := by rw [h]
theorem ret_bool {a b : Bool} (h : a = b) : Ending.returned (.bool a) = .returned (.bool b) := by rw [h]
theorem ret_i64 {a b : Int} (h : a = b) : Ending.returned (.int .i64 a) = .returned (.int .i64 b) := by rw [h]

/-- Quotient times divisor plus remainder is the dividend, modulo 2^16. -/
theorem division_back (a b : Int) (ha : -32768 ≤ a ∧ a ≤ 32767) (h : b ≠ 0) : w16 (w16 (w16 (quo a b) * b) + rem a b) = a := by
  have e : quo a b * b + rem a b = a := by
    rw [quo, if_neg h, rem, if_neg h, Int.mul_comm]
    have := Int.tmod_add_mul_tdiv a b
    omega
  have e1 : (w16 (quo a b) * b) % 65536 = (quo a b * b) % 65536 := by
    rw [Int.mul_emod, Int.mul_emod (quo a b)]
    congr 2
    unfold w16; omega
  generalize w16 (quo a b) * b = x at e1
  generalize quo a b * b = y at e e1
  generalize rem a b = r at e
  unfold w16
  omega
theorem rem_small (a b : Int) (h : b ≠ 0) : max (rem a b) (-rem a b) < max b (-b) := by
  have := tmod_bd a b h
  rw [rem, if_neg h]
  omega
theorem rem_sign (a b : Int) (h : b ≠ 0) : (a < 0 → rem a b ≤ 0) ∧ (0 ≤ a → 0 ≤ rem a b) := by
  rw [rem, if_neg h]
  refine ⟨fun ha => ?_, fun ha => ?_⟩
  · rw [tmod_neg a b ha]
    have := Int.emod_nonneg (-a) h
    omega
  · rw [Int.tmod_eq_emod_of_nonneg ha]
    exact Int.emod_nonneg a h
theorem rem_zero (a : Int) : rem a 0 = 0 := rfl

/-! ### Bytes -/
def lo (a : Int) : Int := a % 65536 % 256
def hi (a : Int) : Int := a % 65536 / 256
theorem lo_bd (a : Int) : 0 ≤ lo a ∧ lo a ≤ 255 := by unfold lo; omega
theorem hi_bd (a : Int) : 0 ≤ hi a ∧ hi a ≤ 255 := by unfold hi; omega
theorem join_bytes (a : Int) (h : -32768 ≤ a ∧ a ≤ 32767) : w16 (lo a + 256 * hi a) = a := by unfold w16 lo hi; omega
theorem lo_join (x y : Int) (hx : 0 ≤ x ∧ x ≤ 255) : lo (w16 (x + 256 * y)) = x := by unfold w16 lo; omega
theorem hi_join (x y : Int) (hx : 0 ≤ x ∧ x ≤ 255) (hy : 0 ≤ y ∧ y ≤ 255) : hi (w16 (x + 256 * y)) = y := by unfold w16 hi; omega

/-! ### Decimal numerals -/
open Go.Lib (decDigits itoa parseUintM parseUintB parseIntB nDigits NumEnd)

theorem digit_toNat {d : Nat} (h : d < 10) : (UInt8.ofNat (48 + d)).toNat = 48 + d := by
  rw [UInt8.toNat_ofNat']; omega

theorem decDigits_digit (u : Nat) : ∀ c ∈ decDigits u, 48 ≤ c.toNat ∧ c.toNat ≤ 57 := by
  induction u using Nat.strongRecOn with
  | _ u ih =>
    intro c hc
    rw [decDigits] at hc
    split at hc
    · rename_i h
      obtain rfl : c = UInt8.ofNat (48 + u) := by simpa using hc
      rw [digit_toNat h]; omega
    · rename_i h
      rcases List.mem_append.1 hc with hc | hc
      · exact ih _ (by omega) c hc
      · obtain rfl : c = UInt8.ofNat (48 + u % 10) := by simpa using hc
        rw [digit_toNat (Nat.mod_lt _ (by omega))]; omega

theorem decDigits_le (u : Nat) (h : u ≤ 9223372036854775807) : (decDigits u).length ≤ 21 := by
  rw [← Lib.itoa_nonneg]; exact Lib.itoa_length_le u (by omega) (by omega)
theorem str_append (a b : List UInt8) : (⟨a.toArray⟩ : ByteArray) ++ ⟨b.toArray⟩ = ⟨(a ++ b).toArray⟩ := by
  apply ByteArray.ext; simp
theorem ret_string {a b : ByteArray} (h : a = b) : Ending.returned (.string a) = .returned (.string b) := by rw [h]

theorem decDigits_ne (u : Nat) : decDigits u ≠ [] := by
  intro h
  have := Lib.decDigits_length u
  rw [h] at this
  have := Lib.nDigits_pos u
  simp at *
  omega

/-- The number that a row of digits spells behind what stands before. -/
def dval (acc : Nat) : List UInt8 → Nat
  | [] => acc
  | c :: r => dval (10 * acc + (c.toNat - 48)) r

theorem dval_append (acc : Nat) (l r : List UInt8) : dval acc (l ++ r) = dval (dval acc l) r := by
  induction l generalizing acc with
  | nil => rfl
  | cons c l ih => exact ih _

theorem dval_decDigits (u : Nat) : dval 0 (decDigits u) = u := by
  induction u using Nat.strongRecOn with
  | _ u ih =>
    by_cases h : u < 10
    · have e : decDigits u = [UInt8.ofNat (48 + u)] := by rw [decDigits, dif_pos h]
      have d := digit_toNat h
      rw [e]
      show 10 * 0 + ((UInt8.ofNat (48 + u)).toNat - 48) = u
      omega
    · have e : decDigits u = decDigits (u / 10) ++ [UInt8.ofNat (48 + u % 10)] := by rw [decDigits, dif_neg h]
      have d := digit_toNat (Nat.mod_lt u (show 10 > 0 by omega))
      rw [e, dval_append, ih _ (by omega)]
      show 10 * (u / 10) + ((UInt8.ofNat (48 + u % 10)).toNat - 48) = u
      omega

theorem dval_bd (l : List UInt8) (h : ∀ c ∈ l, 48 ≤ c.toNat ∧ c.toNat ≤ 57) (acc : Nat) : dval acc l < (acc + 1) * 10 ^ l.length := by
  induction l generalizing acc with
  | nil => show acc < (acc + 1) * 1; omega
  | cons c r ih =>
    have hc := h c (by simp)
    have h1 := ih (fun x hx => h x (by simp [hx])) (10 * acc + (c.toNat - 48))
    have h2 : (10 * acc + (c.toNat - 48) + 1) * 10 ^ r.length ≤ (acc + 1) * 10 * 10 ^ r.length := Nat.mul_le_mul_right _ (by omega)
    have h3 : (acc + 1) * 10 ^ (c :: r).length = (acc + 1) * 10 * 10 ^ r.length := by
      rw [List.length_cons, Nat.pow_succ, Nat.mul_comm (10 ^ r.length) 10, Nat.mul_assoc]
    rw [h3]
    exact Nat.lt_of_lt_of_le h1 h2

theorem parseUintM_digits (M acc : Nat) (l : List UInt8) (h : ∀ c ∈ l, 48 ≤ c.toNat ∧ c.toNat ≤ 57) (hM : M ≤ 65535) (hv : dval acc l ≤ M) (mono : ∀ k, dval acc (l.take k) ≤ M) :
    parseUintM M acc l = .ok (dval acc l) := by
  induction l generalizing acc with
  | nil => rfl
  | cons c r ih =>
    have hc := h c (by simp)
    have h0 : acc ≤ M := mono 0
    have h1 : 10 * acc + (c.toNat - 48) ≤ M := mono 1
    rw [parseUintM, if_pos hc, if_neg (by omega), if_neg (by omega), Nat.mul_comm acc 10]
    exact ih _ (fun x hx => h x (by simp [hx])) hv (fun k => mono (k + 1))

theorem dval_ge (acc : Nat) (l : List UInt8) : acc ≤ dval acc l := by
  induction l generalizing acc with
  | nil => exact Nat.le_refl _
  | cons c r ih => exact Nat.le_trans (by omega) (ih (10 * acc + (c.toNat - 48)))
theorem dval_take (acc : Nat) (l : List UInt8) (k : Nat) : dval acc (l.take k) ≤ dval acc l := by
  conv => rhs; rw [← List.take_append_drop k l, dval_append]
  exact dval_ge _ _

theorem parseUint_dec (u : Nat) (h : u ≤ 65535) : parseUintB 16 (decDigits u) = .ok u := by
  rw [parseUintB, if_neg (decDigits_ne u)]
  have := parseUintM_digits (2 ^ 16 - 1) 0 (decDigits u) (decDigits_digit u) (by decide) (by rw [dval_decDigits]; exact h) (fun k => Nat.le_trans (dval_take _ _ _) (by rw [dval_decDigits]; exact h))
  rw [this, dval_decDigits]

theorem parse_itoa (v : Int) (h0 : -32768 ≤ v) (h1 : v ≤ 32767) : parseIntB 16 (itoa v) = .ok v := by
  by_cases hv : v < 0
  · obtain ⟨u, rfl⟩ : ∃ u : Nat, v = -(u : Int) := ⟨v.natAbs, by omega⟩
    rw [Lib.itoa_neg u (by omega), parseIntB]
    have e45 : (45 : UInt8).toNat = 45 := rfl
    simp only [e45, or_true, if_true]
    rw [parseUint_dec u (by omega)]
    simp
    omega
  · obtain ⟨u, rfl⟩ : ∃ u : Nat, v = u := ⟨v.toNat, by omega⟩
    rw [Lib.itoa_nonneg u]
    have hd := decDigits_digit u
    have hp := parseUint_dec u (by omega)
    cases hl : decDigits u with
    | nil => exact absurd hl (decDigits_ne u)
    | cons c r =>
      rw [hl] at hd hp
      have hc := hd c (by simp)
      simp only [parseIntB]
      have n45 : ¬ c.toNat = 45 := by omega
      have n43 : ¬ c.toNat = 43 := by omega
      simp only [n45, n43, or_self, if_false, hp]
      simp
      omega

/-- The string l is the format of the word v. -/
def Spelt (l : List UInt8) (v : Int) : Prop := (-32768 ≤ v ∧ v ≤ 32767) ∧ itoa v = l
theorem Spelt.one {l : List UInt8} {u v : Int} (hu : Spelt l u) (hv : Spelt l v) : u = v := by
  have a := parse_itoa u hu.1.1 hu.1.2
  have b := parse_itoa v hv.1.1 hv.1.2
  rw [hu.2] at a; rw [hv.2, a] at b
  injection b
/-- What Parse answers: the word whose format is l and no error, or 0 and ErrSyntax where there is none. -/
def ParsesTo (l : List UInt8) (v e : Int) : Prop := (e = 0 ∧ Spelt l v) ∨ (e = 2 ∧ v = 0 ∧ ∀ u, ¬ Spelt l u)
theorem ParsesTo.one {l : List UInt8} {v e v' e' : Int} (h : ParsesTo l v e) (h' : ParsesTo l v' e') : v' = v ∧ e' = e := by
  rcases h with ⟨rfl, h⟩ | ⟨rfl, rfl, h⟩ <;> rcases h' with ⟨rfl, h'⟩ | ⟨rfl, rfl, h'⟩
  · exact ⟨h'.one h, rfl⟩
  · exact absurd h (h' _)
  · exact absurd h' (h _)
  · exact ⟨rfl, rfl⟩
theorem ParsesTo.of_itoa (v : Int) (h : -32768 ≤ v ∧ v ≤ 32767) : ParsesTo (itoa v) v 0 := .inl ⟨rfl, h, rfl⟩

theorem not_spelt_parse {l : List UInt8} (h : ∀ v, parseIntB 16 l ≠ .ok v) : ∀ u, ¬ Spelt l u := fun u hu => h u (by rw [← hu.2]; exact parse_itoa u hu.1.1 hu.1.2)
theorem parsed_bd {l : List UInt8} {v : Int} (h : parseIntB 16 l = .ok v) : -32768 ≤ v ∧ v ≤ 32767 := by
  unfold parseIntB at h
  split at h
  · cases h
  · rename_i c r
    dsimp only at h
    split at h
    · cases h
    · cases h
    · rename_i u hu
      by_cases hn : c.toNat = 45
      · simp only [hn, not_true_eq_false, false_and, if_false, true_and, if_true] at h
        split at h
        · cases h
        · injection h with h; omega
      · simp only [hn, not_false_eq_true, true_and, if_false, false_and] at h
        split at h
        · cases h
        · injection h with h; omega
theorem not_spelt_other {l : List UInt8} {v : Int} (h : parseIntB 16 l = .ok v) (hne : itoa v ≠ l) : ∀ u, ¬ Spelt l u := fun u hu => by
  have := parse_itoa u hu.1.1 hu.1.2
  rw [hu.2, h] at this
  injection this with e
  subst e
  exact hne hu.2

/-! ### What the reference reads: a sign and the digits behind it -/
theorem nDigits_le5 (m : Nat) (h : m ≤ 32768) : nDigits m ≤ 5 := by
  have h1 := Lib.nDigits_pos m
  by_cases a : m < 10
  · rw [Lib.nDigits_small a]; omega
  by_cases b : m < 100
  · rw [Lib.nDigits_unique 1 m (by omega) (by omega)]; omega
  by_cases c : m < 1000
  · rw [Lib.nDigits_unique 2 m (by omega) (by omega)]; omega
  by_cases d : m < 10000
  · rw [Lib.nDigits_unique 3 m (by omega) (by omega)]; omega
  · rw [Lib.nDigits_unique 4 m (by omega) (by omega)]; omega

/-- Whatever word l spells: it is sg times the number that the digits t spell. -/
def Body (sg : Int) (l t : List UInt8) : Prop := ∀ u, Spelt l u → ∃ m : Nat, u = sg * m ∧ m ≤ 32768 ∧ t = decDigits m
theorem body_neg (r : List UInt8) : Body (-1) (45 :: r) r := fun u hu => by
  obtain ⟨⟨h0, h1⟩, he⟩ := hu
  by_cases hn : u < 0
  · obtain ⟨m, rfl⟩ : ∃ m : Nat, u = -(m : Int) := ⟨u.natAbs, by omega⟩
    rw [Lib.itoa_neg m (by omega)] at he
    exact ⟨m, by omega, by omega, by injection he with _ h; exact h.symm⟩
  · obtain ⟨m, rfl⟩ : ∃ m : Nat, u = m := ⟨u.toNat, by omega⟩
    rw [Lib.itoa_nonneg] at he
    have := decDigits_digit m 45 (by rw [he]; simp)
    exact absurd this.1 (by decide)
theorem body_pos (l : List UInt8) (hl : l.head? ≠ some 45) : Body 1 l l := fun u hu => by
  obtain ⟨⟨h0, h1⟩, he⟩ := hu
  by_cases hn : u < 0
  · obtain ⟨m, rfl⟩ : ∃ m : Nat, u = -(m : Int) := ⟨u.natAbs, by omega⟩
    rw [Lib.itoa_neg m (by omega)] at he
    exact absurd (by rw [← he]; rfl) hl
  · obtain ⟨m, rfl⟩ : ∃ m : Nat, u = m := ⟨u.toNat, by omega⟩
    rw [Lib.itoa_nonneg] at he
    exact ⟨m, by omega, by omega, he.symm⟩
theorem Body.no_len {sg : Int} {l t : List UInt8} (hb : Body sg l t) (h : t.length < 1 ∨ 5 < t.length) : ∀ u, ¬ Spelt l u := fun u hu => by
  obtain ⟨m, _, hm, rfl⟩ := hb u hu
  have h1 := nDigits_le5 m hm
  have h2 := Lib.nDigits_pos m
  rw [Lib.decDigits_length] at h
  omega
theorem Body.no_digit {sg : Int} {l t : List UInt8} (hb : Body sg l t) (c : UInt8) (hc : c ∈ t) (h : c.toNat < 48 ∨ 57 < c.toNat) : ∀ u, ¬ Spelt l u := fun u hu => by
  obtain ⟨m, _, hm, rfl⟩ := hb u hu
  have := decDigits_digit m c hc
  omega
theorem Body.no_other {sg : Int} {l t : List UInt8} (hb : Body sg l t) (h : w16 (sg * dval 0 t) ≠ sg * dval 0 t ∨ itoa (w16 (sg * dval 0 t)) ≠ l) : ∀ u, ¬ Spelt l u := fun u hu => by
  obtain ⟨m, rfl, hm, rfl⟩ := hb u hu
  rw [dval_decDigits] at h
  have := w16_in _ hu.1
  rcases h with h | h
  · exact h this
  · rw [this] at h; exact h hu.2
theorem Body.no_txt {sg : Int} {l t : List UInt8} {x : Int} (hb : Body sg l t) (hx : x = sg * dval 0 t) (h : itoa (w16 x) ≠ l) : ∀ u, ¬ Spelt l u := by
  subst hx; exact hb.no_other (Or.inr h)
theorem Body.no_fit {sg : Int} {l t : List UInt8} {x : Int} (hb : Body sg l t) (hx : x = sg * dval 0 t) (h : w16 x ≠ x) : ∀ u, ¬ Spelt l u := by
  subst hx; exact hb.no_other (Or.inl h)
theorem txt_ne {x : Int} {s : ByteArray} (h : (!Lib.itoa x == s.toList) = true) : itoa x ≠ s.data.toList := by rw [ByteArray.toList_eq] at h; simpa using h
theorem txt_eq {x : Int} {s : ByteArray} (h : (!Lib.itoa x == s.toList) = false) : itoa x = s.data.toList := by rw [ByteArray.toList_eq] at h; simpa using h
theorem fit_ne {x : Int} (h : ¬ RowKit.wrap64 (w16 x) = x) : w16 x ≠ x := fun e => h (by
  have := w16_bd x
  rw [IntWalk.wrap64_in _ (by omega)]; exact e)
theorem ParsesTo.yes {l : List UInt8} {x : Int} (h : itoa (w16 x) = l) : ParsesTo l (w16 x) 0 := .inl ⟨rfl, w16_bd x, h⟩
theorem neg_body (s : ByteArray) (h0 : 0 < s.size) (hc : (s[0]'h0).toNat = 45) (t : ByteArray) (ht : t = s.extract 1 s.size) : s.data.toList = 45 :: t.data.toList := by
  subst ht
  obtain ⟨⟨l⟩⟩ := s
  cases l with
  | nil => exact absurd h0 (Nat.lt_irrefl 0)
  | cons c r =>
    have e3 : c = 45 := UInt8.toNat_inj.1 hc
    subst e3
    have e : (ByteArray.mk ⟨45 :: r⟩).extract 1 (ByteArray.mk ⟨45 :: r⟩).size = ⟨⟨r⟩⟩ := by
      apply ByteArray.ext
      rw [ByteArray.data_extract]
      have hs : (ByteArray.mk ⟨45 :: r⟩).size = r.length + 1 := rfl
      rw [hs]
      simp
    rw [e]
theorem take_snoc (s : ByteArray) (k : Nat) (h : k < s.size) : s.data.toList.take (k + 1) = s.data.toList.take k ++ [s[k]] := by
  rw [List.take_succ_eq_append_getElem (by simpa using h)]; rfl
theorem dval_snoc (l : List UInt8) (c : UInt8) : dval 0 (l ++ [c]) = 10 * dval 0 l + (c.toNat - 48) := by rw [dval_append]; rfl
theorem dval_le5 (l : List UInt8) (h : ∀ c ∈ l, 48 ≤ c.toNat ∧ c.toNat ≤ 57) (hk : l.length ≤ 5) : dval 0 l ≤ 99999 := by
  have h1 := dval_bd l h 0
  have h2 : 10 ^ l.length ≤ 10 ^ 5 := Nat.pow_le_pow_right (by omega) hk
  omega

end Go.Proofs.YtelniailmfbinaaDoor
