/-
  PLAIN MATHEMATICS FOR LAYER 13 (powertrace): schedules in their order: their numbers, the next one, how many there are. Nothing of the program stands here.
-/
import Derived.Test.YtapgpdgbdmnkgaaDoorPtPlain
namespace Go.Proofs.YtapgpdgbdmnkgaaDoor
open Go

/-- How many schedules of fewer than n periods there are, of the energies 0 to m. -/
def geo (m : Nat) : Nat → Nat
  | 0 => 0
  | n + 1 => geo m n + (m + 1) ^ n
theorem geo_next (m n : Nat) : geo m (n + 1) = geo m n * (m + 1) + 1 := by
  induction n with
  | zero => simp [geo]
  | succ n ih =>
    rw [geo, ih, Nat.pow_succ, Nat.add_mul (geo m n * (m + 1)) 1 (m + 1)]
    have : geo m (n + 1) = geo m n + (m + 1) ^ n := rfl
    rw [ih] at this
    have h2 : (geo m n * (m + 1) + 1) * (m + 1) = (geo m n + (m + 1) ^ n) * (m + 1) := by rw [this]
    rw [Nat.add_mul, Nat.add_mul (geo m n)] at h2
    omega
theorem pow_pos' (m n : Nat) : 1 ≤ (m + 1) ^ n := Nat.one_le_pow _ _ (by omega)
theorem geo_mono (m : Nat) {a b : Nat} (h : a ≤ b) : geo m a ≤ geo m b := by
  induction h with
  | refl => exact Nat.le_refl _
  | step _ ih => exact Nat.le_trans ih (by rw [geo]; omega)
theorem geo_lt (m : Nat) {a b : Nat} (h : a < b) : geo m a < geo m b := by
  have h1 := geo_mono m (show a + 1 ≤ b from h)
  have h2 := pow_pos' m a
  rw [geo] at h1
  omega
theorem geo_ge (m n : Nat) : n ≤ geo m n := by
  induction n with
  | zero => exact Nat.le_refl _
  | succ n ih => have := pow_pos' m n; rw [geo]; omega
theorem geo_zero (n : Nat) : geo 0 n = n := by
  induction n with
  | zero => rfl
  | succ n ih => rw [geo, ih]; simp
theorem geo_one (m : Nat) : geo m 1 = 1 := by simp [geo]

/-- The number that the energies spell to the base m + 1. -/
def val (m : Nat) (l : List It) : Nat := l.foldl (fun a x => a * (m + 1) + x.1.toNat) 0
theorem foldl_val (m : Nat) (l : List It) (a : Nat) : l.foldl (fun a x => a * (m + 1) + x.1.toNat) a = a * (m + 1) ^ l.length + val m l := by
  induction l generalizing a with
  | nil => simp [val]
  | cons x r ih =>
    simp only [val, List.foldl_cons, List.length_cons]
    rw [ih, ih (0 * (m + 1) + x.1.toNat), Nat.pow_succ]
    simp only [Nat.zero_mul, Nat.zero_add, Nat.add_mul]
    rw [Nat.mul_assoc, Nat.mul_comm (m + 1) ((m + 1) ^ r.length), Nat.add_assoc]
theorem val_cons (m : Nat) (x : It) (r : List It) : val m (x :: r) = x.1.toNat * (m + 1) ^ r.length + val m r := by
  rw [val, List.foldl_cons, foldl_val]; simp
theorem val_append (m : Nat) (a b : List It) : val m (a ++ b) = val m a * (m + 1) ^ b.length + val m b := by
  rw [val, List.foldl_append, foldl_val]; rfl
theorem val_nil (m : Nat) : val m [] = 0 := rfl
/-- All energies from 0 to m, all off times d. -/
def Good (m : Nat) (d : Int) (l : List It) : Prop := ∀ x ∈ l, (0 ≤ x.1 ∧ x.1 ≤ m) ∧ x.2 = d
theorem Good.tail {m : Nat} {d : Int} {x : It} {r : List It} (h : Good m d (x :: r)) : Good m d r := fun y hy => h y (by simp [hy])
theorem Good.left {m : Nat} {d : Int} {a b : List It} (h : Good m d (a ++ b)) : Good m d a := fun y hy => h y (by simp [hy])
theorem val_lt {m : Nat} {d : Int} {l : List It} (h : Good m d l) : val m l < (m + 1) ^ l.length := by
  induction l with
  | nil => simp [val]
  | cons x r ih =>
    have h1 := ih h.tail
    have h2 := (h x (by simp)).1
    rw [val_cons, List.length_cons, Nat.pow_succ]
    have h3 : x.1.toNat * (m + 1) ^ r.length ≤ m * (m + 1) ^ r.length := Nat.mul_le_mul_right _ (by omega)
    rw [Nat.mul_comm ((m + 1) ^ r.length) (m + 1), Nat.add_mul]
    omega
theorem val_inj {m : Nat} {d : Int} {a b : List It} (ha : Good m d a) (hb : Good m d b) (hl : a.length = b.length) (h : val m a = val m b) : a = b := by
  induction a generalizing b with
  | nil => exact (List.eq_nil_of_length_eq_zero hl.symm).symm
  | cons x r ih =>
    cases b with
    | nil => simp at hl
    | cons y s =>
      simp only [List.length_cons, Nat.add_right_cancel_iff] at hl
      rw [val_cons, val_cons, hl] at h
      have h1 := val_lt ha.tail
      have h2 := val_lt hb.tail
      rw [hl] at h1
      have hp := pow_pos' m s.length
      generalize (m + 1) ^ s.length = K at *
      have e1 : (x.1.toNat * K + val m r) / K = x.1.toNat := by rw [Nat.mul_comm, Nat.mul_add_div (by omega), Nat.div_eq_of_lt h1]; rfl
      have e2 : (y.1.toNat * K + val m s) / K = y.1.toNat := by rw [Nat.mul_comm, Nat.mul_add_div (by omega), Nat.div_eq_of_lt h2]; rfl
      have e3 : x.1.toNat = y.1.toNat := by rw [← e1, ← e2, h]
      rw [e3] at h
      obtain ⟨⟨x0, _⟩, x2⟩ := ha x (by simp)
      obtain ⟨⟨y0, _⟩, y2⟩ := hb y (by simp)
      have e4 : x = y := Prod.ext (by omega) (by rw [x2, y2])
      rw [e4, ih ha.tail hb.tail hl (by omega)]
def zeroed (x : It) : It := (0, x.2)
def bumped (x : It) : It := (x.1 + 1, x.2)
/-- A row of the greatest energies. -/
theorem val_full {m : Nat} {d : Int} {r : List It} (h : Good m d r) (hf : ∀ x ∈ r, ¬ x.1 < (m : Int)) : val m r + 1 = (m + 1) ^ r.length := by
  induction r with
  | nil => simp [val]
  | cons x r ih =>
    have h1 := ih h.tail (fun y hy => hf y (by simp [hy]))
    have h2 := (h x (by simp)).1
    have h3 := hf x (by simp)
    rw [val_cons, List.length_cons, Nat.pow_succ, show x.1.toNat = m by omega, Nat.mul_comm ((m + 1) ^ r.length) (m + 1), Nat.add_mul]
    omega
theorem val_zeros (m : Nat) (r : List It) : val m (r.map zeroed) = 0 := by
  induction r with
  | nil => rfl
  | cons x r ih => rw [List.map_cons, val_cons, ih]; simp [zeroed]
/-- The next schedule of the length has the next number. -/
theorem val_bump {m : Nat} {d : Int} {a r : List It} {x : It} (h : Good m d (a ++ x :: r)) (hf : ∀ y ∈ r, ¬ y.1 < (m : Int)) : val m (a ++ bumped x :: r.map zeroed) = val m (a ++ x :: r) + 1 := by
  have hr : Good m d r := fun y hy => h y (by simp [hy])
  have hx := (h x (by simp)).1
  have h1 := val_full hr hf
  rw [val_append, val_append, val_cons, val_cons, val_zeros]
  simp only [List.length_cons, List.length_map, bumped]
  rw [show (x.1 + 1).toNat = x.1.toNat + 1 by omega, Nat.add_mul]
  omega
theorem good_bump {m : Nat} {d : Int} {a r : List It} {x : It} (h : Good m d (a ++ x :: r)) (hx : x.1 < (m : Int)) : Good m d (a ++ bumped x :: r.map zeroed) := by
  intro y hy
  rcases List.mem_append.1 hy with hy | hy
  · exact h y (by simp [hy])
  · rcases List.mem_cons.1 hy with rfl | hy
    · have := h x (by simp)
      exact ⟨by show 0 ≤ x.1 + 1 ∧ x.1 + 1 ≤ (m : Int); omega, this.2⟩
    · obtain ⟨z, hz, rfl⟩ := List.mem_map.1 hy
      have := h z (by simp [hz])
      exact ⟨by show (0 : Int) ≤ 0 ∧ (0 : Int) ≤ m; omega, this.2⟩
theorem val_last {m : Nat} {d : Int} {l : List It} (h : Good m d l) (hf : ∀ y ∈ l, ¬ y.1 < (m : Int)) : val m l + 1 = (m + 1) ^ l.length := val_full h hf
theorem good_rep (m : Nat) (d : Int) (n : Nat) : Good m d (List.replicate n (0, d)) := fun x hx => by
  obtain rfl := List.eq_of_mem_replicate hx
  exact ⟨by simp, rfl⟩
theorem val_rep (m : Nat) (d : Int) (n : Nat) : val m (List.replicate n (0, d)) = 0 := by
  have := val_zeros m (List.replicate n (0, d))
  rwa [List.map_replicate, show zeroed (0, d) = (0, d) from rfl] at this

/-! ### Schedules of all lengths -/
/-- The number of a schedule among all. -/
def idx (m : Nat) (l : List It) : Nat := geo m l.length + val m l
theorem idx_nil (m : Nat) : idx m [] = 0 := rfl
theorem idx_lt {m : Nat} {d : Int} {l : List It} (h : Good m d l) : idx m l < geo m (l.length + 1) := by
  have := val_lt h
  unfold idx
  rw [geo]
  omega
theorem idx_len {m : Nat} {d : Int} {l : List It} (h : Good m d l) (f : Nat) : l.length ≤ f ↔ idx m l < geo m (f + 1) := by
  constructor
  · intro hf
    exact Nat.lt_of_lt_of_le (idx_lt h) (geo_mono m (by omega))
  · intro hi
    rcases Nat.lt_or_ge f l.length with hf | hf
    · have := geo_mono m (show f + 1 ≤ l.length from hf)
      unfold idx at hi
      omega
    · exact hf
theorem idx_inj {m : Nat} {d : Int} {a b : List It} (ha : Good m d a) (hb : Good m d b) (h : idx m a = idx m b) : a = b := by
  have h1 := (idx_len ha b.length).2 (by rw [h]; exact idx_lt hb)
  have h2 := (idx_len hb a.length).2 (by rw [← h]; exact idx_lt ha)
  have hl : a.length = b.length := by omega
  refine val_inj ha hb hl ?_
  unfold idx at h
  rw [hl] at h
  omega
/-- The first schedules, in order. -/
structure Enum (m : Nat) (d : Int) (L : List (List It)) : Prop where
  each : ∀ j l, L[j]? = some l → Good m d l ∧ idx m l = j
theorem Enum.nil (m : Nat) (d : Int) : Enum m d [] := ⟨fun j l h => by simp at h⟩
theorem Enum.snoc {m : Nat} {d : Int} {L : List (List It)} (h : Enum m d L) {l : List It} (hl : Good m d l) (hi : idx m l = L.length) : Enum m d (L ++ [l]) := ⟨fun j x hx => by
  rcases Nat.lt_trichotomy j L.length with hj | hj | hj
  · rw [List.getElem?_append_left hj] at hx
    exact h.each j x hx
  · subst hj
    simp at hx
    rw [← hx]
    exact ⟨hl, hi⟩
  · rw [List.getElem?_append_right (by omega), List.getElem?_eq_none (by simp; omega)] at hx
    cases hx⟩
theorem Enum.uniq {m : Nat} {d : Int} {L K : List (List It)} (h : Enum m d L) (k : Enum m d K) (hl : L.length = K.length) : L = K := by
  apply List.ext_getElem? 
  intro j
  rcases Nat.lt_or_ge j L.length with hj | hj
  · have e1 : L[j]? = some L[j] := List.getElem?_eq_getElem hj
    have e2 : K[j]? = some (K[j]'(by omega)) := List.getElem?_eq_getElem (by omega)
    obtain ⟨g1, i1⟩ := h.each j _ e1
    obtain ⟨g2, i2⟩ := k.each j _ e2
    rw [e1, e2, idx_inj g1 g2 (by omega)]
  · rw [List.getElem?_eq_none hj, List.getElem?_eq_none (by omega)]
/-- Each schedule occurs once. -/
theorem Enum.at {m : Nat} {d : Int} {L : List (List It)} (h : Enum m d L) {l : List It} (hl : Good m d l) (hi : idx m l < L.length) : ∀ j, L[j]? = some l ↔ j = idx m l := by
  intro j
  constructor
  · intro hj
    exact ((h.each j l hj).2).symm
  · intro hj
    subst hj
    have e1 : L[idx m l]? = some L[idx m l] := List.getElem?_eq_getElem hi
    obtain ⟨g1, i1⟩ := h.each _ _ e1
    rw [e1, idx_inj g1 hl i1]

/-! ### How many there are -/
def cnt (f m : Int) : Int := if 0 ≤ f ∧ 0 ≤ m ∧ m ≤ 1073741824 then ((min (geo m.toNat (f.toNat + 1)) 4611686018427387904 : Nat) : Int) else 0
theorem cnt_no {f m : Int} (h : ¬ (0 ≤ f ∧ 0 ≤ m ∧ m ≤ 1073741824)) : cnt f m = 0 := if_neg h
theorem cnt_yes (f m : Nat) (h : m ≤ 1073741824) : cnt f m = ((min (geo m (f + 1)) 4611686018427387904 : Nat) : Int) := by
  unfold cnt
  rw [if_pos (by omega)]
  simp
theorem quo_le {a b c : Nat} (hb : 0 < b) : a ≤ c / b ↔ a * b ≤ c := Nat.le_div_iff_mul_le hb
theorem quo_gt {a b c : Nat} (hb : 0 < b) : c / b < a ↔ c < a * b := Nat.div_lt_iff_lt_mul hb
end Go.Proofs.YtapgpdgbdmnkgaaDoor
