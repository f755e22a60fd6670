/-
  PLAIN MATHEMATICS FOR LAYER 5 (interval): times within their range, decimal texts of intervals and what a text spells. Nothing of the program stands here.
-/
import Derived.IntWalk
import Derived.Laws.BitsAllLaws
import Derived.Lib.ItoaNum
import Derived.Lib.ItoaMem
import Derived.Lib.ParseIntB
import Derived.Lib.ItoaLen
import Derived.Lib.CutLaws
import Derived.Lib.IndexLaws
namespace Go.Proofs.YtoehjejpkaffiaaDoor
open Go

/-- The greatest time. -/
def MT : Int := 1099511627776
/-- The time that is nearest to t. -/
def cl (t : Int) : Int := min (max t 0) 1099511627776
theorem cl_bd (t : Int) : 0 ≤ cl t ∧ cl t ≤ 1099511627776 := by unfold cl; omega
theorem cl_in (t : Int) (h : 0 ≤ t ∧ t ≤ 1099511627776) : cl t = t := by unfold cl; omega
/-- 0 <= lo <= hi <= the greatest time. -/
def va (x y : Int) : Bool := decide (0 ≤ x ∧ x ≤ y ∧ y ≤ 1099511627776)
theorem va_iff {x y : Int} : va x y = true ↔ (0 ≤ x ∧ x ≤ y ∧ y ≤ 1099511627776) := by unfold va; exact decide_eq_true_iff

/-! ### Decimal numerals -/
open Go.Lib (decDigits itoa parseUintM parseUintB parseIntB nDigits NumEnd)

theorem ret_bool {a b : Bool} (h : a = b) : Ending.returned (.bool a) = .returned (.bool b) := by rw [h]
theorem ret_i64 {a b : Int} (h : a = b) : Ending.returned (.int .i64 a) = .returned (.int .i64 b) := by rw [h]
theorem ret_string {a b : ByteArray} (h : a = b) : Ending.returned (.string a) = .returned (.string b) := by rw [h]
theorem str_append (a b : List UInt8) : (⟨a.toArray⟩ : ByteArray) ++ ⟨b.toArray⟩ = ⟨(a ++ b).toArray⟩ := by
  apply ByteArray.ext; simp

theorem digit_toNat {d : Nat} (h : d < 10) : (UInt8.ofNat (48 + d)).toNat = 48 + d := by
  rw [UInt8.toNat_ofNat']; omega
theorem decDigits_digit (u : Nat) : ∀ c ∈ decDigits u, 48 ≤ c.toNat ∧ c.toNat ≤ 57 := by
  induction u using Nat.strongRecOn with
  | _ u ih =>
    intro c hc
    rw [decDigits] at hc
    split at hc
    · rename_i h
      obtain rfl : c = UInt8.ofNat (48 + u) := by simpa using hc
      rw [digit_toNat h]; omega
    · rename_i h
      rcases List.mem_append.1 hc with hc | hc
      · exact ih _ (by omega) c hc
      · obtain rfl : c = UInt8.ofNat (48 + u % 10) := by simpa using hc
        rw [digit_toNat (Nat.mod_lt _ (by omega))]; omega
theorem decDigits_len (u : Nat) (h : u ≤ 1099511627776) : 1 ≤ (decDigits u).length ∧ (decDigits u).length ≤ 13 := by
  rw [Lib.decDigits_length]
  refine ⟨Lib.nDigits_pos u, ?_⟩
  by_cases a : u < 10
  · rw [Lib.nDigits_small a]; omega
  · have hlog : ∀ k, k ≤ 12 → 10 ^ k ≤ u → u < 10 ^ (k + 1) → nDigits u ≤ 13 := fun k hk h1 h2 => by
      rw [Lib.nDigits_unique k u h1 h2]; omega
    rcases Nat.lt_or_ge u (10 ^ 2) with h2 | h2
    · exact hlog 1 (by omega) (by omega) h2
    rcases Nat.lt_or_ge u (10 ^ 3) with h3 | h3
    · exact hlog 2 (by omega) h2 h3
    rcases Nat.lt_or_ge u (10 ^ 4) with h4 | h4
    · exact hlog 3 (by omega) h3 h4
    rcases Nat.lt_or_ge u (10 ^ 5) with h5 | h5
    · exact hlog 4 (by omega) h4 h5
    rcases Nat.lt_or_ge u (10 ^ 6) with h6 | h6
    · exact hlog 5 (by omega) h5 h6
    rcases Nat.lt_or_ge u (10 ^ 7) with h7 | h7
    · exact hlog 6 (by omega) h6 h7
    rcases Nat.lt_or_ge u (10 ^ 8) with h8 | h8
    · exact hlog 7 (by omega) h7 h8
    rcases Nat.lt_or_ge u (10 ^ 9) with h9 | h9
    · exact hlog 8 (by omega) h8 h9
    rcases Nat.lt_or_ge u (10 ^ 10) with h10 | h10
    · exact hlog 9 (by omega) h9 h10
    rcases Nat.lt_or_ge u (10 ^ 11) with h11 | h11
    · exact hlog 10 (by omega) h10 h11
    rcases Nat.lt_or_ge u (10 ^ 12) with h12 | h12
    · exact hlog 11 (by omega) h11 h12
    · exact hlog 12 (by omega) h12 (by omega)
theorem decDigits_ne (u : Nat) : decDigits u ≠ [] := by
  intro h
  have := Lib.decDigits_length u
  rw [h] at this
  have := Lib.nDigits_pos u
  simp at *
  omega

/-- The number that a row of digits spells behind what stands before. -/
def dval (acc : Nat) : List UInt8 → Nat
  | [] => acc
  | c :: r => dval (10 * acc + (c.toNat - 48)) r
theorem dval_append (acc : Nat) (l r : List UInt8) : dval acc (l ++ r) = dval (dval acc l) r := by
  induction l generalizing acc with
  | nil => rfl
  | cons c l ih => exact ih _
theorem dval_decDigits (u : Nat) : dval 0 (decDigits u) = u := by
  induction u using Nat.strongRecOn with
  | _ u ih =>
    by_cases h : u < 10
    · have e : decDigits u = [UInt8.ofNat (48 + u)] := by rw [decDigits, dif_pos h]
      have d := digit_toNat h
      rw [e]
      show 10 * 0 + ((UInt8.ofNat (48 + u)).toNat - 48) = u
      omega
    · have e : decDigits u = decDigits (u / 10) ++ [UInt8.ofNat (48 + u % 10)] := by rw [decDigits, dif_neg h]
      have d := digit_toNat (Nat.mod_lt u (show 10 > 0 by omega))
      rw [e, dval_append, ih _ (by omega)]
      show 10 * (u / 10) + ((UInt8.ofNat (48 + u % 10)).toNat - 48) = u
      omega
theorem dval_bd (l : List UInt8) (h : ∀ c ∈ l, 48 ≤ c.toNat ∧ c.toNat ≤ 57) (acc : Nat) : dval acc l < (acc + 1) * 10 ^ l.length := by
  induction l generalizing acc with
  | nil => show acc < (acc + 1) * 1; omega
  | cons c r ih =>
    have hc := h c (by simp)
    have h1 := ih (fun x hx => h x (by simp [hx])) (10 * acc + (c.toNat - 48))
    have h2 : (10 * acc + (c.toNat - 48) + 1) * 10 ^ r.length ≤ (acc + 1) * 10 * 10 ^ r.length := Nat.mul_le_mul_right _ (by omega)
    have h3 : (acc + 1) * 10 ^ (c :: r).length = (acc + 1) * 10 * 10 ^ r.length := by
      rw [List.length_cons, Nat.pow_succ, Nat.mul_comm (10 ^ r.length) 10, Nat.mul_assoc]
    rw [h3]
    exact Nat.lt_of_lt_of_le h1 h2
theorem dval_le13 (l : List UInt8) (h : ∀ c ∈ l, 48 ≤ c.toNat ∧ c.toNat ≤ 57) (hk : l.length ≤ 13) : dval 0 l ≤ 9999999999999 := by
  have h1 := dval_bd l h 0
  have h2 : 10 ^ l.length ≤ 10 ^ 13 := Nat.pow_le_pow_right (by omega) hk
  omega
theorem dval_ge (acc : Nat) (l : List UInt8) : acc ≤ dval acc l := by
  induction l generalizing acc with
  | nil => exact Nat.le_refl _
  | cons c r ih => exact Nat.le_trans (by omega) (ih (10 * acc + (c.toNat - 48)))
theorem dval_take (acc : Nat) (l : List UInt8) (k : Nat) : dval acc (l.take k) ≤ dval acc l := by
  conv => rhs; rw [← List.take_append_drop k l, dval_append]
  exact dval_ge _ _
theorem take_snoc (s : ByteArray) (k : Nat) (h : k < s.size) : s.data.toList.take (k + 1) = s.data.toList.take k ++ [s[k]] := by
  rw [List.take_succ_eq_append_getElem (by simpa using h)]; rfl
theorem dval_snoc (l : List UInt8) (c : UInt8) : dval 0 (l ++ [c]) = 10 * dval 0 l + (c.toNat - 48) := by rw [dval_append]; rfl

theorem parseUintM_digits (M acc : Nat) (l : List UInt8) (h : ∀ c ∈ l, 48 ≤ c.toNat ∧ c.toNat ≤ 57) (hM : M ≤ 18446744073709551615) (hv : dval acc l ≤ M) (mono : ∀ k, dval acc (l.take k) ≤ M) :
    parseUintM M acc l = .ok (dval acc l) := by
  induction l generalizing acc with
  | nil => rfl
  | cons c r ih =>
    have hc := h c (by simp)
    have h0 : acc ≤ M := mono 0
    have h1 : 10 * acc + (c.toNat - 48) ≤ M := mono 1
    rw [parseUintM, if_pos hc, if_neg (by omega), if_neg (by omega), Nat.mul_comm acc 10]
    exact ih _ (fun x hx => h x (by simp [hx])) hv (fun k => mono (k + 1))
theorem parseUint_dec (u : Nat) (h : u ≤ 1099511627776) : parseUintB 64 (decDigits u) = .ok u := by
  rw [parseUintB, if_neg (decDigits_ne u)]
  have := parseUintM_digits (2 ^ 64 - 1) 0 (decDigits u) (decDigits_digit u) (by decide) (by rw [dval_decDigits]; omega) (fun k => Nat.le_trans (dval_take _ _ _) (by rw [dval_decDigits]; omega))
  rw [this, dval_decDigits]
theorem parse_dec (u : Nat) (h : u ≤ 1099511627776) : parseIntB 64 (decDigits u) = .ok u := by
  have hd := decDigits_digit u
  have hp := parseUint_dec u h
  cases hl : decDigits u with
  | nil => exact absurd hl (decDigits_ne u)
  | cons c r =>
    rw [hl] at hd hp
    have hc := hd c (by simp)
    simp only [parseIntB]
    have n45 : ¬ c.toNat = 45 := by omega
    have n43 : ¬ c.toNat = 43 := by omega
    simp only [n45, n43, or_self, if_false, hp]
    simp
    omega

/-! ### The text of an interval -/

/-- The format of the interval from x to y. -/
def fmt (x y : Nat) : List UInt8 := if x = y then decDigits x else decDigits x ++ (46 :: 46 :: decDigits y)
/-- The string l is the format of the valid interval from u to v. -/
def Spelt (l : List UInt8) (u v : Int) : Prop := ∃ x y : Nat, u = x ∧ v = y ∧ x ≤ y ∧ y ≤ 1099511627776 ∧ fmt x y = l
/-- What Parse answers. -/
def ParsesTo (l : List UInt8) (u v e : Int) : Prop := (e = 0 ∧ Spelt l u v) ∨ (e = 2 ∧ u = 0 ∧ v = 0 ∧ ∀ x y, ¬ Spelt l x y)

theorem not_dot {c : UInt8} (h : 48 ≤ c.toNat ∧ c.toNat ≤ 57) : c ≠ 46 := fun e => by
  rw [e] at h; exact absurd h.1 (by decide)
/-- No '..' begins inside the digits. -/
theorem no_dots_in (d r : List UInt8) (hd : ∀ c ∈ d, 48 ≤ c.toNat ∧ c.toNat ≤ 57) (j : Nat) (hj : j < d.length) : Lib.occAt (d ++ r) [46, 46] j = false := by
  unfold Lib.occAt
  rw [List.drop_append_of_le_length (Nat.le_of_lt hj), List.drop_eq_getElem_cons hj]
  have := not_dot (hd d[j] (List.getElem_mem hj))
  simp only [List.cons_append, List.isPrefixOf]
  have h2 : ((46 : UInt8) == d[j]) = false := by
    rw [beq_eq_false_iff_ne]; exact fun e => this e.symm
  rw [h2]; rfl
theorem cut_none (d : List UInt8) (hd : ∀ c ∈ d, 48 ≤ c.toNat ∧ c.toNat ≤ 57) : Lib.cut d [46, 46] = (d, [], false) := by
  have h : Lib.index d [46, 46] = -1 := Lib.index_none (fun j hj => by
    rcases Nat.lt_or_ge j d.length with h | h
    · have := no_dots_in d [] hd j h
      rwa [List.append_nil] at this
    · unfold Lib.occAt
      rw [List.drop_eq_nil_of_le h]; rfl)
  unfold Lib.cut
  rw [h, if_neg (by omega)]
theorem cut_two (d r : List UInt8) (hd : ∀ c ∈ d, 48 ≤ c.toNat ∧ c.toNat ≤ 57) : Lib.cut (d ++ (46 :: 46 :: r)) [46, 46] = (d, r, true) := by
  have h : Lib.index (d ++ (46 :: 46 :: r)) [46, 46] = d.length := Lib.index_first (by simp) (by
    unfold Lib.occAt
    simp [List.isPrefixOf]) (fun j hj => no_dots_in d _ hd j hj)
  unfold Lib.cut
  rw [h, if_pos (by omega)]
  simp

/-- The two parts of which Parse makes numbers. -/
def piece1 (l : List UInt8) : List UInt8 := (Lib.cut l [46, 46]).1
def piece2 (l : List UInt8) : List UInt8 := if (Lib.cut l [46, 46]).2.2 then (Lib.cut l [46, 46]).2.1 else (Lib.cut l [46, 46]).1
theorem Spelt.pieces {l : List UInt8} {u v : Int} (h : Spelt l u v) : parseIntB 64 (piece1 l) = .ok u ∧ parseIntB 64 (piece2 l) = .ok v := by
  obtain ⟨x, y, rfl, rfl, hxy, hy, rfl⟩ := h
  unfold piece1 piece2 fmt
  split
  · rename_i e
    subst e
    rw [cut_none _ (decDigits_digit x)]
    exact ⟨parse_dec x hy, parse_dec x hy⟩
  · rw [cut_two _ _ (decDigits_digit x)]
    exact ⟨parse_dec x (by omega), parse_dec y hy⟩
theorem Spelt.one {l : List UInt8} {u v u' v' : Int} (h : Spelt l u v) (h' : Spelt l u' v') : u' = u ∧ v' = v := by
  obtain ⟨a, b⟩ := h.pieces
  obtain ⟨a', b'⟩ := h'.pieces
  rw [a] at a'; rw [b] at b'
  injection a' with e1
  injection b' with e2
  exact ⟨e1.symm, e2.symm⟩
theorem ParsesTo.one {l : List UInt8} {u v e u' v' e' : Int} (h : ParsesTo l u v e) (h' : ParsesTo l u' v' e') : u' = u ∧ v' = v ∧ e' = e := by
  rcases h with ⟨rfl, h⟩ | ⟨rfl, rfl, rfl, h⟩ <;> rcases h' with ⟨rfl, h'⟩ | ⟨rfl, rfl, rfl, h'⟩
  · obtain ⟨rfl, rfl⟩ := h.one h'; exact ⟨rfl, rfl, rfl⟩
  · exact absurd h (h' _ _)
  · exact absurd h' (h _ _)
  · exact ⟨rfl, rfl, rfl⟩
theorem not_spelt1 {l : List UInt8} (h : ∀ v, parseIntB 64 (piece1 l) ≠ .ok v) : ∀ x y, ¬ Spelt l x y := fun x _ hs => h x hs.pieces.1
theorem not_spelt2 {l : List UInt8} (h : ∀ v, parseIntB 64 (piece2 l) ≠ .ok v) : ∀ x y, ¬ Spelt l x y := fun _ y hs => h y hs.pieces.2
theorem piece1_nil : piece1 [] = [] := rfl
/-- The text of an interval, valid or not. -/
def txt (x y : Int) : List UInt8 := if va x y = true then fmt x.toNat y.toNat else []
theorem not_spelt3 {l : List UInt8} {x y : Int} (h1 : parseIntB 64 (piece1 l) = .ok x) (h2 : parseIntB 64 (piece2 l) = .ok y) (hne : txt x y ≠ l) : ∀ u v, ¬ Spelt l u v := fun u v hs => by
  obtain ⟨a, b⟩ := hs.pieces
  rw [h1] at a; rw [h2] at b
  injection a with e1
  injection b with e2
  subst e1 e2
  obtain ⟨m, n, rfl, rfl, h3, h4, h5⟩ := hs
  refine hne ?_
  unfold txt
  rw [if_pos (va_iff.2 ⟨by omega, by omega, by omega⟩)]
  exact h5
theorem txt_spelt {l : List UInt8} {x y : Int} (h1 : parseIntB 64 (piece1 l) = .ok x) (he : txt x y = l) : Spelt l x y := by
  unfold txt at he
  split at he
  · rename_i hv
    obtain ⟨a, b, c⟩ := va_iff.1 hv
    exact ⟨x.toNat, y.toNat, by omega, by omega, by omega, by omega, he⟩
  · subst he
    rw [piece1_nil] at h1
    unfold Lib.parseIntB at h1
    cases h1
theorem txt_spelt' {l : List UInt8} {x y : Int} (hv : va x y = true) (he : txt x y = l) : Spelt l x y := by
  unfold txt at he
  rw [if_pos hv] at he
  obtain ⟨a, b, c⟩ := va_iff.1 hv
  exact ⟨x.toNat, y.toNat, by omega, by omega, by omega, by omega, he⟩
theorem Spelt.txt {l : List UInt8} {u v : Int} (h : Spelt l u v) : va u v = true ∧ txt u v = l := by
  obtain ⟨x, y, rfl, rfl, h1, h2, h3⟩ := h
  have hv : va x y = true := va_iff.2 ⟨by omega, by omega, by omega⟩
  refine ⟨hv, ?_⟩
  unfold Go.Proofs.YtoehjejpkaffiaaDoor.txt
  rw [if_pos hv]
  exact h3

/-! ### What the reference reads -/

/-- The value of up to 13 digits, or -1. -/
def numv (l : List UInt8) : Int := if 1 ≤ l.length ∧ l.length ≤ 13 ∧ (∀ c ∈ l, 48 ≤ c.toNat ∧ c.toNat ≤ 57) then (dval 0 l : Int) else -1
theorem numv_bd (l : List UInt8) : -1 ≤ numv l ∧ numv l ≤ 9999999999999 := by
  unfold numv
  split
  · rename_i h
    have := dval_le13 l h.2.2 h.2.1
    omega
  · omega
theorem numv_dec (u : Nat) (h : u ≤ 1099511627776) : numv (decDigits u) = u := by
  obtain ⟨a, b⟩ := decDigits_len u h
  unfold numv
  rw [if_pos ⟨a, b, decDigits_digit u⟩, dval_decDigits]
/-- Two dots stand at place i. -/
def dots (l : List UInt8) (i : Nat) : Prop := l[i]? = some 46 ∧ l[i + 1]? = some 46
theorem dots_in (d r : List UInt8) (hd : ∀ c ∈ d, 48 ≤ c.toNat ∧ c.toNat ≤ 57) (j : Nat) (hj : j < d.length) : ¬ dots (d ++ r) j := fun h => by
  have := h.1
  rw [List.getElem?_append_left hj, List.getElem?_eq_getElem hj] at this
  injection this with e
  exact not_dot (hd _ (List.getElem_mem hj)) e
/-- No dots anywhere: what is spelt is one number. -/
theorem Spelt.no_dots {l : List UInt8} {u v : Int} (h : Spelt l u v) (hn : ∀ j, ¬ dots l j) : u = numv l ∧ v = numv l := by
  obtain ⟨x, y, rfl, rfl, h1, h2, h3⟩ := h
  unfold fmt at h3
  split at h3
  · rename_i e
    subst e h3
    rw [numv_dec x h2]; exact ⟨rfl, rfl⟩
  · subst h3
    refine absurd ?_ (hn (decDigits x).length)
    exact ⟨by simp, by simp⟩
/-- The first dots stand at place i. -/
theorem Spelt.dots {l : List UInt8} {u v : Int} (h : Spelt l u v) (i : Nat) (hi : dots l i) (hn : ∀ j, j < i → ¬ dots l j) : u = numv (l.take i) ∧ v = numv (l.drop (i + 2)) := by
  obtain ⟨x, y, rfl, rfl, h1, h2, h3⟩ := h
  unfold fmt at h3
  split at h3
  · rename_i e
    subst e h3
    have hlt : i < (decDigits x).length := by
      obtain ⟨h, _⟩ := List.getElem?_eq_some_iff.1 hi.1
      exact h
    exact absurd (by simpa using hi) (dots_in (decDigits x) [] (decDigits_digit x) i hlt)
  · subst h3
    have e : i = (decDigits x).length := by
      rcases Nat.lt_trichotomy i (decDigits x).length with h | h | h
      · exact absurd hi (dots_in _ _ (decDigits_digit x) i h)
      · exact h
      · exact absurd ⟨by simp, by simp⟩ (hn _ h)
    subst e
    have e2 : List.drop ((decDigits x).length + 2) (decDigits x ++ 46 :: 46 :: decDigits y) = decDigits y := by
      rw [← List.drop_drop, List.drop_left]; rfl
    rw [List.take_left, e2, numv_dec x (by omega), numv_dec y h2]
    exact ⟨rfl, rfl⟩
end Go.Proofs.YtoehjejpkaffiaaDoor
