/-
  PLAIN MATHEMATICS FOR LAYER 4 (bitset), FURTHER: the bits of a word in order, the elements of a set in order, and how many bits a word has, as the library counts them. Nothing of the program stands here.
-/
import Derived.Test.YtgkjkchhepmakaaDoorBitsetPlain
namespace Go.Proofs.YtgkjkchhepmakaaDoor
open Go

/-! ### The bits of a word, in order -/
def low (u : W64) : List Nat := (List.range 64).filter u.getLsbD
theorem low_asc (u : W64) : (low u).Pairwise (· < ·) := List.pairwise_lt_range.filter _
theorem low_mem (u : W64) (b : Nat) : b ∈ low u ↔ u.getLsbD b = true := by
  unfold low
  rw [List.mem_filter, List.mem_range]
  constructor
  · exact fun h => h.2
  · intro h
    refine ⟨?_, h⟩
    apply Classical.byContradiction
    intro hb
    rw [BitVec.getLsbD_of_ge _ _ (by omega)] at h
    cases h
theorem low_zero : low 0#64 = [] := by
  apply List.eq_nil_iff_forall_not_mem.2
  intro b hb
  rw [low_mem, BitVec.getLsbD_zero] at hb
  cases hb
theorem testBit_odd (m j : Nat) : (2 * m + 1).testBit j = (decide (j = 0) || m.testBit (j - 1)) := by
  cases j with
  | zero => simp
  | succ j => rw [Nat.testBit_succ, show (2 * m + 1) / 2 = m by omega]; simp
theorem testBit_even (m j : Nat) : (2 * m).testBit j = (!decide (j = 0) && m.testBit (j - 1)) := by
  cases j with
  | zero => simp
  | succ j => rw [Nat.testBit_succ, show (2 * m) / 2 = m by omega]; simp
theorem and_pred (k m b : Nat) : (2 ^ k * (2 * m + 1) &&& (2 ^ k * (2 * m + 1) - 1)).testBit b = ((2 ^ k * (2 * m + 1)).testBit b && !decide (b = k)) := by
  have hp : 0 < 2 ^ k := Nat.two_pow_pos k
  have e : 2 ^ k * (2 * m + 1) - 1 = 2 ^ k * (2 * m) + (2 ^ k - 1) := by rw [Nat.mul_add]; omega
  rw [Nat.testBit_and, e, Nat.testBit_two_pow_mul_add _ (by omega), Nat.testBit_two_pow_mul]
  by_cases h : b < k
  · rw [if_pos h]
    simp [show ¬ k ≤ b by omega]
  · rw [if_neg h, testBit_odd, testBit_even]
    by_cases h2 : b = k
    · subst h2; simp
    · simp [show k ≤ b by omega, show ¬ b - k = 0 by omega, h2]
theorem odd_low (k m b : Nat) (h : (2 ^ k * (2 * m + 1)).testBit b = true) : k ≤ b := by
  rw [Nat.testBit_two_pow_mul] at h
  simp at h
  exact h.1
theorem odd_here (k m : Nat) : (2 ^ k * (2 * m + 1)).testBit k = true := by
  rw [Nat.testBit_two_pow_mul, testBit_odd]; simp
theorem pred_toNat (u : W64) (h : u ≠ 0#64) : (u - 1#64).toNat = u.toNat - 1 := by
  have h1 : u.toNat ≠ 0 := fun e => h (BitVec.eq_of_toNat_eq (by simpa using e))
  have := u.isLt
  rw [BitVec.toNat_sub]
  simp
  omega
/-- The lowest bit, then those of u & (u-1). -/
theorem low_peel (u : W64) (h : u ≠ 0#64) : low u = Lib.ctz 64 u.toNat :: low (u &&& (u - 1#64)) ∧ Lib.ctz 64 u.toNat < 64 := by
  have h1 : u.toNat ≠ 0 := fun e => h (BitVec.eq_of_toNat_eq (by simpa using e))
  have hlt : u.toNat < 2 ^ 64 := u.isLt
  obtain ⟨m, hm, hk⟩ := Lib.ctzFrom_spec 64 u.toNat (by omega) hlt
  have hc : Lib.ctz 64 u.toNat = Lib.ctzFrom 64 u.toNat := by unfold Lib.ctz; rw [if_neg h1]
  rw [hc]
  generalize Lib.ctzFrom 64 u.toNat = k at hm hk
  have hu : ∀ b, u.getLsbD b = (2 ^ k * (2 * m + 1)).testBit b := fun b => by rw [← hm]; rfl
  have hand : ∀ b, (u &&& (u - 1#64)).getLsbD b = (u.getLsbD b && !decide (b = k)) := fun b => by
    rw [hu, ← and_pred, ← hm]
    show (u &&& (u - 1#64)).toNat.testBit b = _
    rw [BitVec.toNat_and, pred_toNat u h]
  refine ⟨?_, hk⟩
  refine asc_unique _ _ (low_asc u) (List.pairwise_cons.2 ⟨fun b hb => ?_, low_asc _⟩) fun b => ?_
  · rw [low_mem, hand, Bool.and_eq_true, hu] at hb
    have := odd_low _ _ _ hb.1
    have : b ≠ k := by simpa using hb.2
    omega
  · rw [List.mem_cons, low_mem, low_mem, hand, Bool.and_eq_true]
    constructor
    · intro hb
      by_cases e : b = k
      · exact .inl e
      · exact .inr ⟨hb, by simpa using e⟩
    · rintro (rfl | ⟨hb, _⟩)
      · rw [hu]; exact odd_here _ _
      · exact hb

/-! ### The elements of a set, in order -/
def elsFrom : Nat → List W64 → List Nat
  | _, [] => []
  | i, u :: us => (low u).map (64 * i + ·) ++ elsFrom (i + 1) us
theorem bitAt_cons (u : W64) (us : List W64) (n : Nat) : bitAt (u :: us) n = if n < 64 then u.getLsbD n else bitAt us (n - 64) := by
  unfold bitAt
  split
  · rename_i h
    rw [show n / 64 = 0 by omega, show n % 64 = n by omega]; rfl
  · rename_i h
    rw [show n / 64 = (n - 64) / 64 + 1 by omega, show n % 64 = (n - 64) % 64 by omega]; rfl
theorem elsFrom_mem : ∀ (ws : List W64) (i n : Nat), n ∈ elsFrom i ws ↔ 64 * i ≤ n ∧ bitAt ws (n - 64 * i) = true
  | [], i, n => by rw [bitAt_out [] _ (by simp)]; simp [elsFrom]
  | u :: us, i, n => by
    rw [elsFrom, List.mem_append, elsFrom_mem us (i + 1) n, bitAt_cons]
    constructor
    · rintro (h | ⟨h1, h2⟩)
      · obtain ⟨b, hb, rfl⟩ := List.mem_map.1 h
        have h64 : b < 64 := List.mem_range.1 (List.mem_filter.1 hb).1
        rw [low_mem] at hb
        exact ⟨by omega, by rw [if_pos (by omega), show 64 * i + b - 64 * i = b by omega]; exact hb⟩
      · exact ⟨by omega, by rw [if_neg (by omega), show n - 64 * i - 64 = n - 64 * (i + 1) by omega]; exact h2⟩
    · rintro ⟨h1, h2⟩
      split at h2
      · exact .inl (List.mem_map.2 ⟨n - 64 * i, (low_mem _ _).2 h2, by omega⟩)
      · exact .inr ⟨by omega, by rw [show n - 64 * (i + 1) = n - 64 * i - 64 by omega]; exact h2⟩
theorem elsFrom_asc : ∀ (ws : List W64) (i : Nat), (elsFrom i ws).Pairwise (· < ·)
  | [], i => List.Pairwise.nil
  | u :: us, i => by
    rw [elsFrom, List.pairwise_append]
    refine ⟨List.pairwise_map.2 ((low_asc u).imp fun h => by omega), elsFrom_asc us (i + 1), fun a ha b hb => ?_⟩
    obtain ⟨c, hc, rfl⟩ := List.mem_map.1 ha
    have h64 : c < 64 := List.mem_range.1 (List.mem_filter.1 hc).1
    have := ((elsFrom_mem _ _ _).1 hb).1
    omega
theorem Sets.els {ws : List W64} {f : Nat → Bool} (h : Sets ws f) : Lst f (elsFrom 0 ws) :=
  ⟨elsFrom_asc ws 0, fun n => by rw [elsFrom_mem, ← h.bits]; simp⟩
theorem elsFrom_drop (ws : List W64) (i : Nat) (h : i < ws.length) : elsFrom i (ws.drop i) = (low (ws.getD i 0#64)).map (64 * i + ·) ++ elsFrom (i + 1) (ws.drop (i + 1)) := by
  rw [List.drop_eq_getElem_cons h, elsFrom]
  simp [List.getD, h]
theorem elsFrom_end (ws : List W64) (i : Nat) (h : ws.length ≤ i) : elsFrom i (ws.drop i) = [] := by
  rw [List.drop_eq_nil_of_le h]; rfl
/-- How many bits the words have. -/
def pc (u : W64) : Nat := (low u).length
def pcs (ws : List W64) : Nat := (ws.map pc).sum
theorem pc_le (u : W64) : pc u ≤ 64 := by
  have := List.length_filter_le u.getLsbD (List.range 64)
  rw [List.length_range] at this
  exact this
theorem pcs_els : ∀ (ws : List W64) (i : Nat), (elsFrom i ws).length = pcs ws
  | [], _ => rfl
  | u :: us, i => by simp [elsFrom, pcs, pc, pcs_els us (i + 1)]
theorem pcs_take (ws : List W64) (k : Nat) (h : k < ws.length) : pcs (ws.take (k + 1)) = pcs (ws.take k) + pc (ws.getD k 0#64) := by
  have e : ws.getD k 0#64 = ws[k] := by simp [List.getD, h]
  rw [e, pcs, pcs, List.take_succ_eq_append_getElem h, List.map_append, List.sum_append]
  simp only [List.map_cons, List.map_nil, List.sum_cons, List.sum_nil, Nat.add_zero]
theorem pcs_le : ∀ (ws : List W64), pcs ws ≤ 64 * ws.length
  | [] => by simp [pcs]
  | u :: us => by
    have h1 := pcs_le us
    have h2 := pc_le u
    simp only [pcs, List.map_cons, List.sum_cons, List.length_cons] at h1 ⊢
    omega

/-! ### The library's count of the bits of a word -/
def pcn : Nat → Nat → Nat
  | 0, _ => 0
  | k + 1, x => x % 2 + pcn k (x / 2)
theorem pcn_filter : ∀ (k x : Nat), ((List.range k).filter x.testBit).length = pcn k x
  | 0, _ => rfl
  | k + 1, x => by
    have e : (x.testBit ∘ Nat.succ) = (x / 2).testBit := by funext j; exact Nat.testBit_succ x j
    rw [List.range_succ_eq_map, List.filter_cons, List.filter_map, e, pcn, ← pcn_filter k (x / 2)]
    have h0 : x.testBit 0 = decide (x % 2 = 1) := Nat.testBit_zero x
    rw [h0]
    by_cases h : x % 2 = 1
    · simp [h]; omega
    · simp [h]; omega
theorem pc_eq (u : W64) : pc u = pcn 64 u.toNat := pcn_filter 64 u.toNat
/-- Digits of t bits. -/
def V (t : Nat) : List Nat → Nat
  | [] => 0
  | d :: ds => d + 2 ^ t * V t ds
def E (t : Nat) : Nat → Nat
  | 0 => 0
  | k + 1 => (2 ^ t - 1) + 2 ^ (2 * t) * E t k
def evens : List Nat → List Nat
  | a :: _ :: r => a :: evens r
  | _ => []
def odds : List Nat → List Nat
  | _ :: b :: r => b :: odds r
  | _ => []
def pairs : List Nat → List Nat
  | a :: b :: r => (a + b) :: pairs r
  | _ => []
theorem and_split (i a b c d : Nat) (hb : b < 2 ^ i) (hd : d < 2 ^ i) : (b + 2 ^ i * a) &&& (d + 2 ^ i * c) = (b &&& d) + 2 ^ i * (a &&& c) := by
  have tb : ∀ a b j : Nat, b < 2 ^ i → (b + 2 ^ i * a).testBit j = if j < i then b.testBit j else a.testBit (j - i) := fun a b j h => by
    rw [Nat.add_comm]; exact Nat.testBit_two_pow_mul_add a h j
  apply Nat.eq_of_testBit_eq
  intro j
  rw [Nat.testBit_and, tb _ _ _ hb, tb _ _ _ hd, tb _ _ _ (Nat.and_lt_two_pow _ hd)]
  split
  · rw [Nat.testBit_and]
  · rw [Nat.testBit_and]
theorem two_digits (t a b : Nat) (ha : a < 2 ^ t) (hb : b < 2 ^ t) : a + 2 ^ t * b < 2 ^ (2 * t) := by
  rw [Nat.two_mul, Nat.pow_add]
  have : 2 ^ t * (b + 1) ≤ 2 ^ t * 2 ^ t := Nat.mul_le_mul_left _ hb
  rw [Nat.mul_add] at this
  omega
theorem V_two (t a b : Nat) (r : List Nat) : V t (a :: b :: r) = (a + 2 ^ t * b) + 2 ^ (2 * t) * V t r := by
  simp only [V]
  rw [Nat.two_mul, Nat.pow_add, Nat.mul_add, Nat.mul_assoc, Nat.add_assoc]
theorem mask_low (t a b : Nat) (ha : a < 2 ^ t) : (a + 2 ^ t * b) &&& (2 ^ t - 1) = a := by
  rw [Nat.and_two_pow_sub_one_eq_mod, Nat.add_mul_mod_self_left, Nat.mod_eq_of_lt ha]
theorem mask_lt (t : Nat) : 2 ^ t - 1 < 2 ^ (2 * t) := by
  have h1 : 2 ^ t ≤ 2 ^ (2 * t) := Nat.pow_le_pow_right (by omega) (by omega)
  have h2 := Nat.two_pow_pos t
  omega
theorem V_evens (t : Nat) : ∀ (k : Nat) (ds : List Nat), ds.length = 2 * k → (∀ d ∈ ds, d < 2 ^ t) → V t ds &&& E t k = V (2 * t) (evens ds)
  | 0, ds, h, _ => by
    obtain rfl : ds = [] := List.eq_nil_of_length_eq_zero (by omega)
    simp [V, E, evens]
  | k + 1, ds, h, hd => by
    match ds, h with
    | a :: b :: r, h =>
      have ha := hd a (by simp)
      have hb := hd b (by simp)
      rw [V_two, E, and_split _ _ _ _ _ (two_digits t a b ha hb) (mask_lt t), mask_low t a b ha, V_evens t k r (by simp at h; omega) (fun d h => hd d (by simp [h]))]
      rfl
theorem V_odds (t : Nat) : ∀ (k : Nat) (ds : List Nat), ds.length = 2 * k → (∀ d ∈ ds, d < 2 ^ t) → V t ds / 2 ^ t &&& E t k = V (2 * t) (odds ds)
  | 0, ds, h, _ => by
    obtain rfl : ds = [] := List.eq_nil_of_length_eq_zero (by omega)
    simp [V, E, odds]
  | k + 1, ds, h, hd => by
    match ds, h with
    | a :: b :: r, h =>
      have ha := hd a (by simp)
      have hb := hd b (by simp)
      have hp := Nat.two_pow_pos t
      have e1 : V t (a :: b :: r) / 2 ^ t = b + 2 ^ t * V t r := by
        show (a + 2 ^ t * (b + 2 ^ t * V t r)) / 2 ^ t = _
        rw [Nat.add_mul_div_left _ _ hp, Nat.div_eq_of_lt ha, Nat.zero_add]
      have e2 : b + 2 ^ t * V t r = (b + 2 ^ t * (V t r % 2 ^ t)) + 2 ^ (2 * t) * (V t r / 2 ^ t) := by
        conv => lhs; rw [← Nat.mod_add_div (V t r) (2 ^ t)]
        rw [Nat.two_mul, Nat.pow_add, Nat.mul_add, Nat.mul_assoc, Nat.add_assoc]
      rw [e1, e2, E, and_split _ _ _ _ _ (two_digits t b _ hb (Nat.mod_lt _ hp)) (mask_lt t), mask_low t b _ hb, V_odds t k r (by simp at h; omega) (fun d h => hd d (by simp [h]))]
      rfl
theorem V_pairs (t : Nat) : ∀ (ds : List Nat), V t (odds ds) + V t (evens ds) = V t (pairs ds)
  | [] => rfl
  | [_] => rfl
  | a :: b :: r => by
    have := V_pairs t r
    simp only [odds, evens, pairs, V]
    rw [← this, Nat.mul_add]
    omega
theorem pairs_length : ∀ (k : Nat) (ds : List Nat), ds.length = 2 * k → (pairs ds).length = k
  | 0, ds, h => by
    obtain rfl : ds = [] := List.eq_nil_of_length_eq_zero (by omega)
    rfl
  | k + 1, ds, h => by
    match ds, h with
    | a :: b :: r, h => simp only [pairs, List.length_cons, pairs_length k r (by simp at h; omega)]
theorem pairs_sum : ∀ (k : Nat) (ds : List Nat), ds.length = 2 * k → (pairs ds).sum = ds.sum
  | 0, ds, h => by
    obtain rfl : ds = [] := List.eq_nil_of_length_eq_zero (by omega)
    rfl
  | k + 1, ds, h => by
    match ds, h with
    | a :: b :: r, h => simp only [pairs, List.sum_cons, pairs_sum k r (by simp at h; omega)]; omega
theorem pairs_le : ∀ (M : Nat) (ds : List Nat), (∀ d ∈ ds, d ≤ M) → ∀ d ∈ pairs ds, d ≤ 2 * M
  | _, [], _, d, h => by simp [pairs] at h
  | _, [_], _, d, h => by simp [pairs] at h
  | M, a :: b :: r, hm, d, h => by
    simp only [pairs, List.mem_cons] at h
    rcases h with rfl | h
    · have := hm a (by simp)
      have := hm b (by simp)
      omega
    · exact pairs_le M r (fun d h => hm d (by simp [h])) d h
theorem V_lt (t : Nat) : ∀ (ds : List Nat), (∀ d ∈ ds, d < 2 ^ t) → V t ds < 2 ^ (t * ds.length)
  | [], _ => by simp [V]
  | a :: r, h => by
    have h1 := V_lt t r fun d hd => h d (by simp [hd])
    have ha := h a (by simp)
    rw [List.length_cons, Nat.mul_add, Nat.mul_one, Nat.add_comm, Nat.pow_add]
    have : 2 ^ t * (V t r + 1) ≤ 2 ^ t * 2 ^ (t * r.length) := Nat.mul_le_mul_left _ h1
    rw [Nat.mul_add] at this
    simp only [V]
    omega
def adj : List Nat → List Nat
  | [] => []
  | a :: r => (a + r.headD 0) :: adj r
theorem V_adj (t : Nat) : ∀ (ds : List Nat), V t ds + V t ds.tail = V t (adj ds)
  | [] => rfl
  | [a] => by simp [V, adj]
  | a :: b :: r => by
    have h : (b + 2 ^ t * V t r) + V t r = V t (adj (b :: r)) := V_adj t (b :: r)
    show (a + 2 ^ t * (b + 2 ^ t * V t r)) + (b + 2 ^ t * V t r) = (a + b) + 2 ^ t * V t (adj (b :: r))
    rw [← h, Nat.mul_add (2 ^ t) (b + 2 ^ t * V t r)]
    omega
theorem V_div (t : Nat) (ds : List Nat) (h : ∀ d ∈ ds, d < 2 ^ t) : V t ds / 2 ^ t = V t ds.tail := by
  cases ds with
  | nil => simp [V]
  | cons a r =>
    have ha := h a (by simp)
    show (a + 2 ^ t * V t r) / 2 ^ t = V t r
    rw [Nat.add_mul_div_left _ _ (Nat.two_pow_pos t), Nat.div_eq_of_lt ha, Nat.zero_add]
theorem adj_length : ∀ ds : List Nat, (adj ds).length = ds.length
  | [] => rfl
  | a :: r => by simp [adj, adj_length r]
theorem adj_le (M : Nat) : ∀ ds : List Nat, (∀ d ∈ ds, d ≤ M) → ∀ d ∈ adj ds, d ≤ 2 * M
  | [], _, d, h => by simp [adj] at h
  | a :: r, hm, d, h => by
    simp only [adj, List.mem_cons] at h
    rcases h with rfl | h
    · have h1 := hm a (by simp)
      have h2 : r.headD 0 ≤ M := by
        cases r with
        | nil => simp
        | cons b r => exact hm b (by simp)
      omega
    · exact adj_le M r (fun d h => hm d (by simp [h])) d h
theorem evens_adj : ∀ (k : Nat) (ds : List Nat), ds.length = 2 * k → evens (adj ds) = pairs ds
  | 0, ds, h => by
    obtain rfl : ds = [] := List.eq_nil_of_length_eq_zero (by omega)
    rfl
  | k + 1, ds, h => by
    match ds, h with
    | a :: b :: r, h => simp only [adj, evens, pairs, List.headD_cons, evens_adj k r (by simp at h; omega)]
def bitsL : Nat → Nat → List Nat
  | 0, _ => []
  | k + 1, x => x % 2 :: bitsL k (x / 2)
theorem bitsL_V : ∀ (k x : Nat), x < 2 ^ k → V 1 (bitsL k x) = x
  | 0, x, h => by simp at h; subst h; rfl
  | k + 1, x, h => by
    rw [bitsL, V, bitsL_V k (x / 2) (by rw [Nat.pow_succ] at h; omega)]
    omega
theorem bitsL_sum : ∀ (k x : Nat), (bitsL k x).sum = pcn k x
  | 0, _ => rfl
  | k + 1, x => by rw [bitsL, List.sum_cons, bitsL_sum k, pcn]
theorem bitsL_le : ∀ (k x : Nat), ∀ d ∈ bitsL k x, d ≤ 1
  | 0, _, d, h => by simp [bitsL] at h
  | k + 1, x, d, h => by
    simp only [bitsL, List.mem_cons] at h
    rcases h with rfl | h
    · omega
    · exact bitsL_le k _ d h
theorem bitsL_length : ∀ (k x : Nat), (bitsL k x).length = k
  | 0, _ => rfl
  | k + 1, x => by simp [bitsL, bitsL_length k]

def s1 (x : Nat) : Nat := (x / 2 &&& 6148914691236517205) + (x &&& 6148914691236517205)
def s2 (x : Nat) : Nat := (x / 4 &&& 3689348814741910323) + (x &&& 3689348814741910323)
def s3 (x : Nat) : Nat := (x / 16 + x) &&& 1085102592571150095
theorem bits_and_nat (a b : Nat) (ha : a < 18446744073709551616) (hb : b < 18446744073709551616) : bits .and .u64 (a : Int) (b : Int) = ((a &&& b : Nat) : Int) := bits_and_u64_nat a b ha hb
/-- The eight counts. -/
theorem swar (x : Nat) (h : x < 2 ^ 64) : ∃ c0 c1 c2 c3 c4 c5 c6 c7 : Nat, s1 x < 18446744073709551616 ∧ s2 (s1 x) < 18446744073709551616 ∧ s2 (s1 x) / 16 + s2 (s1 x) < 18446744073709551616 ∧
    s3 (s2 (s1 x)) = c0 + 256 * (c1 + 256 * (c2 + 256 * (c3 + 256 * (c4 + 256 * (c5 + 256 * (c6 + 256 * c7)))))) ∧ c0 ≤ 8 ∧ c1 ≤ 8 ∧ c2 ≤ 8 ∧ c3 ≤ 8 ∧ c4 ≤ 8 ∧ c5 ≤ 8 ∧ c6 ≤ 8 ∧ c7 ≤ 8 ∧ c0 + c1 + c2 + c3 + c4 + c5 + c6 + c7 = pcn 64 x := by
  have l0 := bitsL_length 64 x
  have m0 := bitsL_le 64 x
  have v0 := bitsL_V 64 x h
  have t0 := bitsL_sum 64 x
  generalize bitsL 64 x = d0 at l0 m0 v0 t0
  have l1 := pairs_length 32 d0 (by omega)
  have m1 := pairs_le 1 d0 m0
  have t1 := pairs_sum 32 d0 (by omega)
  have v1 : s1 x = V 2 (pairs d0) := by
    rw [s1, ← v0, show (6148914691236517205 : Nat) = E 1 32 by decide, V_odds 1 32 d0 (by omega) (fun d hd => by have := m0 d hd; omega), V_evens 1 32 d0 (by omega) (fun d hd => by have := m0 d hd; omega), V_pairs]
  generalize pairs d0 = d1 at l1 m1 t1 v1
  have l2 := pairs_length 16 d1 (by omega)
  have m2 := pairs_le 2 d1 m1
  have t2 := pairs_sum 16 d1 (by omega)
  have b1 := V_lt 2 d1 fun d hd => by have := m1 d hd; omega
  have v2 : s2 (s1 x) = V 4 (pairs d1) := by
    rw [s2, v1, show (3689348814741910323 : Nat) = E 2 16 by decide, V_odds 2 16 d1 (by omega) (fun d hd => by have := m1 d hd; omega), V_evens 2 16 d1 (by omega) (fun d hd => by have := m1 d hd; omega), V_pairs]
  generalize pairs d1 = d2 at l2 m2 t2 v2
  have l3 := pairs_length 8 d2 (by omega)
  have m3 := pairs_le 4 d2 m2
  have t3 := pairs_sum 8 d2 (by omega)
  have b2 := V_lt 4 d2 fun d hd => by have := m2 d hd; omega
  have a1 : s2 (s1 x) / 16 + s2 (s1 x) = V 4 (adj d2) := by
    rw [v2, show (16 : Nat) = 2 ^ 4 by decide, V_div 4 d2 (fun d hd => by have := m2 d hd; omega), ← V_adj]
    omega
  have b3 := V_lt 4 (adj d2) fun d hd => by have := adj_le 4 d2 m2 d hd; omega
  have v3 : s3 (s2 (s1 x)) = V 8 (pairs d2) := by
    rw [s3, a1, show (1085102592571150095 : Nat) = E 4 8 by decide, V_evens 4 8 (adj d2) (by rw [adj_length]; omega) (fun d hd => by have := adj_le 4 d2 m2 d hd; omega), evens_adj 8 d2 (by omega)]
  rw [l1] at b1
  rw [l2] at b2
  rw [adj_length, l2] at b3
  generalize pairs d2 = d3 at l3 m3 t3 v3
  match d3, l3 with
  | [c0, c1, c2, c3, c4, c5, c6, c7], _ =>
    refine ⟨c0, c1, c2, c3, c4, c5, c6, c7, by omega, by omega, by omega, ?_, m3 _ (by simp), m3 _ (by simp), m3 _ (by simp), m3 _ (by simp), m3 _ (by simp), m3 _ (by simp), m3 _ (by simp), m3 _ (by simp), ?_⟩
    · rw [v3]
      simp [V]
    · simp at t3
      omega
end Go.Proofs.YtgkjkchhepmakaaDoor
