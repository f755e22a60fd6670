/-
  PLAIN MATHEMATICS FOR LAYER 4 (bitset): words of 64 bits and their bits, ascending lists, the operations on words. Nothing of the program stands here.
-/
import Derived.IntWalk
import Derived.Laws.Bits64b
import Derived.Lib.TrailingZeros
import Derived.Lib.Hide
namespace Go.Proofs.YtgkjkchhepmakaaDoor
open Go

abbrev W64 := BitVec 64

/-! ### Ascending lists -/
/-- x lists, in ascending order, the numbers at which f holds. -/
structure Lst (f : Nat → Bool) (x : List Nat) : Prop where
  asc : x.Pairwise (· < ·)
  mem : ∀ n, n ∈ x ↔ f n = true

theorem asc_unique : ∀ (x y : List Nat), x.Pairwise (· < ·) → y.Pairwise (· < ·) → (∀ n, n ∈ x ↔ n ∈ y) → x = y
  | [], [], _, _, _ => rfl
  | [], b :: y, _, _, h => by have := (h b).2 (by simp); simp at this
  | a :: x, [], _, _, h => by have := (h a).1 (by simp); simp at this
  | a :: x, b :: y, hx, hy, h => by
    rw [List.pairwise_cons] at hx hy
    have hab : a = b := by
      have h1 := (h a).1 (by simp)
      have h2 := (h b).2 (by simp)
      simp only [List.mem_cons] at h1 h2
      rcases h1 with h1 | h1
      · exact h1
      · rcases h2 with h2 | h2
        · exact h2.symm
        · have := hx.1 _ h2
          have := hy.1 _ h1
          omega
    subst hab
    congr 1
    refine asc_unique x y hx.2 hy.2 fun n => ?_
    have hn := h n
    simp only [List.mem_cons] at hn
    constructor
    · intro hm
      have := hx.1 n hm
      rcases hn.1 (.inr hm) with e | e
      · omega
      · exact e
    · intro hm
      have := hy.1 n hm
      rcases hn.2 (.inr hm) with e | e
      · omega
      · exact e
theorem Lst.unique {f g : Nat → Bool} {x y : List Nat} (h : Lst f x) (h' : Lst g y) (e : ∀ n, f n = g n) : x = y :=
  asc_unique x y h.asc h'.asc fun n => by rw [h.mem, h'.mem, e]
theorem Lst.congr {f g : Nat → Bool} {x : List Nat} (h : Lst f x) (e : ∀ n, f n = g n) : Lst g x := ⟨h.asc, fun n => by rw [h.mem, e]⟩
theorem Lst.filter {f g : Nat → Bool} {x : List Nat} (h : Lst f x) : Lst (fun n => f n && g n) (x.filter g) :=
  ⟨h.asc.filter g, fun n => by rw [List.mem_filter, h.mem, Bool.and_eq_true]⟩
theorem Lst.nil : Lst (fun _ => false) [] := ⟨List.Pairwise.nil, fun n => by simp⟩
/-- How many: no more than there are numbers. -/
theorem asc_length : ∀ (x : List Nat) (a b : Nat), x.Pairwise (· < ·) → (∀ n ∈ x, a ≤ n ∧ n < b) → x.length ≤ b - a
  | [], _, _, _, _ => by simp
  | c :: x, a, b, hx, h => by
    rw [List.pairwise_cons] at hx
    have hc := h c (by simp)
    have := asc_length x (c + 1) b hx.2 fun n hn => ⟨hx.1 n hn, (h n (by simp [hn])).2⟩
    simp
    omega
theorem Lst.small {f : Nat → Bool} {x : List Nat} (h : Lst f x) (hf : ∀ n, f n = true → n < 65536) : x.length ≤ 65536 :=
  asc_length x 0 65536 h.asc fun n hn => ⟨Nat.zero_le _, hf n ((h.mem n).1 hn)⟩

/-! ### Words -/
/-- Bit n of the words. -/
def bitAt (ws : List W64) (n : Nat) : Bool := (ws.getD (n / 64) 0#64).getLsbD (n % 64)
/-- The words are those of the set f. -/
structure Sets (ws : List W64) (f : Nat → Bool) : Prop where
  len : ws.length ≤ 1024
  last : ∀ k, ws.length = k + 1 → ws.getD k 0#64 ≠ 0#64
  bits : ∀ n, bitAt ws n = f n

theorem word_bit (u : W64) (h : u ≠ 0#64) : ∃ b, b < 64 ∧ u.getLsbD b = true := by
  apply Classical.byContradiction
  intro hn
  apply h
  apply BitVec.eq_of_getLsbD_eq
  intro i hi
  rw [BitVec.getLsbD_zero]
  cases hb : u.getLsbD i with
  | false => rfl
  | true => exact absurd ⟨i, hi, hb⟩ hn
theorem getD_out (ws : List W64) (i : Nat) (h : ws.length ≤ i) : ws.getD i 0#64 = 0#64 := by simp [List.getD, List.getElem?_eq_none h]
theorem bitAt_out (ws : List W64) (n : Nat) (h : ws.length ≤ n / 64) : bitAt ws n = false := by
  unfold bitAt
  rw [getD_out _ _ h, BitVec.getLsbD_zero]
theorem bitAt_word (ws : List W64) (i b : Nat) (h : b < 64) : bitAt ws (64 * i + b) = (ws.getD i 0#64).getLsbD b := by
  unfold bitAt
  rw [show (64 * i + b) / 64 = i by omega, show (64 * i + b) % 64 = b by omega]
theorem Sets.lt {ws : List W64} {f : Nat → Bool} (h : Sets ws f) (n : Nat) (hn : f n = true) : n < 65536 := by
  rw [← h.bits] at hn
  apply Classical.byContradiction
  intro hc
  rw [bitAt_out ws n (by have := h.len; omega)] at hn
  cases hn
theorem Sets.congr {ws : List W64} {f g : Nat → Bool} (h : Sets ws f) (e : ∀ n, f n = g n) : Sets ws g := ⟨h.len, h.last, fun n => by rw [h.bits, e]⟩
theorem Sets.not_longer {ws vs : List W64} {f g : Nat → Bool} (h : Sets ws f) (h' : Sets vs g) (e : ∀ n, f n = true → g n = true) : ws.length ≤ vs.length := by
  apply Classical.byContradiction
  intro hc
  obtain ⟨k, hk⟩ : ∃ k, ws.length = k + 1 := ⟨ws.length - 1, by omega⟩
  obtain ⟨b, hb, hu⟩ := word_bit _ (h.last k hk)
  have h1 : f (64 * k + b) = true := by rw [← h.bits, bitAt_word _ _ _ hb, hu]
  have h2 := e _ h1
  rw [← h'.bits, bitAt_out vs _ (by omega)] at h2
  cases h2
theorem words_ext {ws vs : List W64} (hl : ws.length = vs.length) (h : ∀ n, bitAt ws n = bitAt vs n) : ws = vs := by
  apply List.ext_getElem hl
  intro i h1 h2
  apply BitVec.eq_of_getLsbD_eq
  intro b hb
  have := h (64 * i + b)
  rw [bitAt_word _ _ _ hb, bitAt_word _ _ _ hb] at this
  simpa [List.getD, h1, h2] using this
theorem Sets.unique {ws vs : List W64} {f g : Nat → Bool} (h : Sets ws f) (h' : Sets vs g) (e : ∀ n, f n = g n) : ws = vs :=
  words_ext (by
    have h1 := h.not_longer h' fun n hn => by rw [← e]; exact hn
    have h2 := h'.not_longer h fun n hn => by rw [e]; exact hn
    omega) fun n => by rw [h.bits, h'.bits, e]
theorem Sets.eq_iff {ws vs : List W64} {f g : Nat → Bool} (h : Sets ws f) (h' : Sets vs g) : ws = vs ↔ ∀ n, f n = g n :=
  ⟨fun e n => by rw [← h.bits, ← h'.bits, e], fun e => h.unique h' e⟩
/-- A subset: no longer, and no word has a bit that the other lacks. -/
theorem Sets.sub_iff {ws vs : List W64} {f g : Nat → Bool} (h : Sets ws f) (h' : Sets vs g) :
    (ws.length ≤ vs.length ∧ ∀ i, i < ws.length → ws.getD i 0#64 &&& ~~~ (vs.getD i 0#64) = 0#64) ↔ ∀ n, f n = true → g n = true := by
  constructor
  · rintro ⟨_, h2⟩ n hn
    rw [← h.bits] at hn
    rw [← h'.bits]
    rcases Nat.lt_or_ge (n / 64) ws.length with hl | hl
    · have h3 := congrArg (fun u => u.getLsbD (n % 64)) (h2 (n / 64) hl)
      unfold bitAt at hn ⊢
      simp only [BitVec.getLsbD_and, BitVec.getLsbD_not, BitVec.getLsbD_zero, hn, show n % 64 < 64 by omega, decide_true, Bool.true_and] at h3
      simpa using h3
    · rw [bitAt_out ws n hl] at hn
      cases hn
  · intro e
    refine ⟨h.not_longer h' e, fun i hi => ?_⟩
    apply BitVec.eq_of_getLsbD_eq
    intro b hb
    have h1 := e (64 * i + b)
    rw [← h.bits, ← h'.bits, bitAt_word _ _ _ hb, bitAt_word _ _ _ hb] at h1
    simp only [BitVec.getLsbD_and, BitVec.getLsbD_not, BitVec.getLsbD_zero, hb, decide_true, Bool.true_and]
    cases hx : (ws.getD i 0#64).getLsbD b with
    | false => rfl
    | true => rw [h1 hx]; rfl

/-! ### A loop that writes the words one after another -/
/-- The first k words have been written. -/
def upTo (k : Nat) (a : List W64) (g : Nat → W64 → W64) : List W64 := a.mapIdx fun i u => if i < k then g i u else u
theorem upTo_length (k : Nat) (a : List W64) (g : Nat → W64 → W64) : (upTo k a g).length = a.length := by simp [upTo]
theorem upTo_zero (a : List W64) (g : Nat → W64 → W64) : upTo 0 a g = a := by
  apply List.ext_getElem
  · simp [upTo]
  · intro i h1 h2
    simp [upTo]
theorem upTo_get (k : Nat) (a : List W64) (g : Nat → W64 → W64) (i : Nat) (h : i < a.length) : (upTo k a g).getD i 0#64 = if i < k then g i (a.getD i 0#64) else a.getD i 0#64 := by
  simp [upTo, List.getD, h]
theorem upTo_here (k : Nat) (a : List W64) (g : Nat → W64 → W64) (h : k < a.length) : (upTo k a g).getD k 0#64 = a.getD k 0#64 := by
  rw [upTo_get _ _ _ _ h, if_neg (by omega)]
theorem upTo_set (k : Nat) (a : List W64) (g : Nat → W64 → W64) (h : k < a.length) : (upTo k a g).set k (g k (a.getD k 0#64)) = upTo (k + 1) a g := by
  apply List.ext_getElem
  · simp [upTo]
  · intro i h1 h2
    have hi : i < a.length := by simpa [upTo] using h2
    rw [List.getElem_set]
    simp only [upTo, List.getElem_mapIdx]
    by_cases e : k = i
    · subst e
      simp [List.getD, h]
    · rw [if_neg e]
      by_cases h3 : i < k
      · rw [if_pos h3, if_pos (by omega)]
      · rw [if_neg h3, if_neg (by omega)]
theorem upTo_bit (k : Nat) (a : List W64) (g : Nat → W64 → W64) (n : Nat) (h : n / 64 < a.length) : bitAt (upTo k a g) n = (if n / 64 < k then g (n / 64) (a.getD (n / 64) 0#64) else a.getD (n / 64) 0#64).getLsbD (n % 64) := by
  unfold bitAt
  rw [upTo_get _ _ _ _ h]
theorem upTo_out (k : Nat) (a : List W64) (g : Nat → W64 → W64) (n : Nat) (h : a.length ≤ n / 64) : bitAt (upTo k a g) n = false := bitAt_out _ _ (by rw [upTo_length]; exact h)

/-- What trim leaves. -/
theorem Sets.take {ws : List W64} {f : Nat → Bool} (k : Nat) (hk : k ≤ ws.length) (hl : ws.length ≤ 1024) (h0 : ∀ i, k ≤ i → ws.getD i 0#64 = 0#64) (hlast : ∀ j, k = j + 1 → ws.getD j 0#64 ≠ 0#64) (hf : ∀ n, bitAt ws n = f n) : Sets (ws.take k) f := by
  have hlen : (ws.take k).length = k := by simp; omega
  have hget : ∀ i, i < k → (ws.take k).getD i 0#64 = ws.getD i 0#64 := fun i hi => by simp [List.getD, hi]
  refine ⟨by omega, fun j hj => ?_, fun n => ?_⟩
  · rw [hget j (by omega)]
    exact hlast j (by omega)
  · rw [← hf]
    unfold bitAt
    rcases Nat.lt_or_ge (n / 64) k with h | h
    · rw [hget _ h]
    · rw [getD_out _ _ (by omega), h0 _ h]
/-- Union: the shorter one is written over the longer one. -/
theorem Sets.or {s t : List W64} {f g : Nat → Bool} (hs : Sets s f) (ht : Sets t g) (hl : t.length ≤ s.length) : Sets (upTo t.length s fun i u => u ||| t.getD i 0#64) (fun n => f n || g n) := by
  refine ⟨by rw [upTo_length]; exact hs.len, fun k hk => ?_, fun n => ?_⟩
  · rw [upTo_length] at hk
    rw [upTo_get _ _ _ _ (by omega)]
    have h1 := hs.last k hk
    split
    · intro h2
      obtain ⟨b, hb, hu⟩ := word_bit _ h1
      have := congrArg (fun u => u.getLsbD b) h2
      simp only [BitVec.getLsbD_or, hu, BitVec.getLsbD_zero, Bool.true_or] at this
      cases this
    · exact h1
  · rw [← hs.bits, ← ht.bits]
    rcases Nat.lt_or_ge (n / 64) s.length with h | h
    · rw [upTo_bit _ _ _ _ h]
      split
      · rw [BitVec.getLsbD_or]; rfl
      · rw [bitAt_out t n (by omega), Bool.or_false]; rfl
    · rw [upTo_out _ _ _ _ h, bitAt_out s n h, bitAt_out t n (by omega)]; rfl
theorem or_comm' {s : List W64} {f g : Nat → Bool} (h : Sets s (fun n => f n || g n)) : Sets s (fun n => g n || f n) := h.congr fun _ => Bool.or_comm _ _
theorem and_bits {s t : List W64} {f g : Nat → Bool} (hs : Sets s f) (ht : Sets t g) (m : Nat) (hm : m = min s.length t.length) (n : Nat) :
    bitAt (upTo m (List.replicate m 0#64) fun i _ => s.getD i 0#64 &&& t.getD i 0#64) n = (f n && g n) := by
  rw [← hs.bits, ← ht.bits]
  rcases Nat.lt_or_ge (n / 64) m with h | h
  · rw [upTo_bit _ _ _ _ (by simpa using h), if_pos h, BitVec.getLsbD_and]; rfl
  · rw [upTo_out _ _ _ _ (by simpa using h)]
    rcases Nat.lt_or_ge (n / 64) s.length with h1 | h1
    · rw [bitAt_out t n (by omega), Bool.and_false]
    · rw [bitAt_out s n h1, Bool.false_and]
theorem minus_bits {s t : List W64} {f g : Nat → Bool} (hs : Sets s f) (ht : Sets t g) (m : Nat) (hm : m = min s.length t.length) (n : Nat) :
    bitAt (upTo m s fun i u => u &&& ~~~ t.getD i 0#64) n = (f n && !g n) := by
  rw [← hs.bits, ← ht.bits]
  rcases Nat.lt_or_ge (n / 64) s.length with h | h
  · rw [upTo_bit _ _ _ _ h]
    split
    · rw [BitVec.getLsbD_and, BitVec.getLsbD_not]
      simp [bitAt, Nat.mod_lt]
    · rw [bitAt_out t n (by omega)]
      simp [bitAt]
  · rw [upTo_out _ _ _ _ h, bitAt_out s n h, Bool.false_and]

/-! ### Below a bound; one element more -/
theorem replicate_get (k i : Nat) (u : W64) (h : i < k) : (List.replicate k u).getD i 0#64 = u := by simp [List.getD, h]
theorem ones_bit (b : Nat) (h : b < 64) : (BitVec.allOnes 64).getLsbD b = true := by rw [BitVec.getLsbD_allOnes]; exact decide_eq_true h
theorem low_bit (r b : Nat) (hr : r < 64) : (BitVec.ofNat 64 (2 ^ r - 1)).getLsbD b = decide (b < r) := by
  rw [BitVec.getLsbD_ofNat, Nat.testBit_two_pow_sub_one]
  by_cases h : b < r
  · simp [h]; omega
  · simp [h]
theorem one_bit (r b : Nat) (hr : r < 64) : (BitVec.ofNat 64 (2 ^ r)).getLsbD b = decide (b = r) := by
  rw [BitVec.getLsbD_ofNat, Nat.testBit_two_pow]
  by_cases h : r = b
  · subst h; simp [hr]
  · simp [h, Ne.symm h]
theorem Sets.nil : Sets [] (fun _ => false) := ⟨by simp, fun k h => by simp at h, fun n => bitAt_out [] n (by simp)⟩
theorem Sets.full (n : Nat) (hn : n ≤ 65536) (hr : n % 64 = 0) : Sets (List.replicate (n / 64) (BitVec.allOnes 64)) (fun m => decide (m < n)) := by
  refine ⟨by simp; omega, fun k hk => ?_, fun m => ?_⟩
  · simp at hk
    rw [replicate_get _ _ _ (by omega)]
    decide
  · rcases Nat.lt_or_ge (m / 64) (n / 64) with h | h
    · unfold bitAt
      rw [replicate_get _ _ _ h, ones_bit _ (by omega)]
      have : m < n := by omega
      simp [this]
    · rw [bitAt_out _ _ (by simpa using h)]
      have : ¬ m < n := by omega
      simp [this]
theorem Sets.part (n : Nat) (hn : n ≤ 65536) (hr : 0 < n % 64) : Sets (List.replicate (n / 64) (BitVec.allOnes 64) ++ [BitVec.ofNat 64 (2 ^ (n % 64) - 1)]) (fun m => decide (m < n)) := by
  have hlen : (List.replicate (n / 64) (BitVec.allOnes 64) ++ [BitVec.ofNat 64 (2 ^ (n % 64) - 1)]).length = n / 64 + 1 := by simp
  have hl : (List.replicate (n / 64) (BitVec.allOnes 64) ++ [BitVec.ofNat 64 (2 ^ (n % 64) - 1)]).getD (n / 64) 0#64 = BitVec.ofNat 64 (2 ^ (n % 64) - 1) := by simp [List.getD]
  refine ⟨by omega, fun k hk => ?_, fun m => ?_⟩
  · obtain rfl : k = n / 64 := by omega
    rw [hl]
    intro h0
    have := congrArg (fun u => u.getLsbD 0) h0
    simp only [low_bit _ _ (show n % 64 < 64 by omega), BitVec.getLsbD_zero, hr, decide_true] at this
    cases this
  · rcases Nat.lt_or_ge (m / 64) (n / 64) with h | h
    · unfold bitAt
      rw [show (List.replicate (n / 64) (BitVec.allOnes 64) ++ [BitVec.ofNat 64 (2 ^ (n % 64) - 1)]).getD (m / 64) 0#64 = BitVec.allOnes 64 by simp [List.getD, List.getElem?_append, h], ones_bit _ (by omega)]
      have : m < n := by omega
      simp [this]
    · rcases Nat.lt_or_ge (n / 64) (m / 64) with h2 | h2
      · rw [bitAt_out _ _ (by omega)]
        have : ¬ m < n := by omega
        simp [this]
      · have e : m / 64 = n / 64 := by omega
        unfold bitAt
        rw [e, hl, low_bit _ _ (by omega)]
        congr 1
        simp only [eq_iff_iff]
        omega
/-- One element more: zeros behind, where there are too few words; then its bit. -/
theorem Sets.add {ws : List W64} {f : Nat → Bool} (h : Sets ws f) (n q m : Nat) (hn : n < 65536) (hq : n / 64 = q) (hm : m = q + 1 - ws.length) :
    Sets ((ws ++ List.replicate m 0#64).set q ((ws ++ List.replicate m 0#64).getD q 0#64 ||| BitVec.ofNat 64 (2 ^ (n % 64)))) (fun k => f k || k == n) := by
  have hlen : (ws ++ List.replicate m 0#64).length = ws.length + m := by simp
  have hget : ∀ i, (ws ++ List.replicate m 0#64).getD i 0#64 = ws.getD i 0#64 := fun i => by
    rcases Nat.lt_or_ge i ws.length with h1 | h1
    · simp [List.getD, List.getElem?_append, h1]
    · rw [getD_out ws i h1]
      rcases Nat.lt_or_ge i (ws.length + m) with h2 | h2
      · simp [List.getD, List.getElem?_append, Nat.not_lt.2 h1, show i - ws.length < m by omega]
      · exact getD_out _ _ (by omega)
  have hset : ∀ i, ((ws ++ List.replicate m 0#64).set q ((ws ++ List.replicate m 0#64).getD q 0#64 ||| BitVec.ofNat 64 (2 ^ (n % 64)))).getD i 0#64 = if i = q then ws.getD q 0#64 ||| BitVec.ofNat 64 (2 ^ (n % 64)) else ws.getD i 0#64 := fun i => by
    rw [← hget i, ← hget q]
    by_cases e : i = q
    · subst e
      rw [if_pos rfl]
      simp only [List.getD, List.getElem?_set, if_true]
      rw [if_pos (by omega)]
      rfl
    · rw [if_neg e]
      simp only [List.getD, List.getElem?_set, if_neg (Ne.symm e)]
  have hone := one_bit (n % 64) (n % 64) (by omega)
  refine ⟨by rw [List.length_set]; have := h.len; omega, fun k hk => ?_, fun k => ?_⟩
  · rw [List.length_set, hlen] at hk
    rw [hset]
    split
    · intro h0
      have := congrArg (fun u => u.getLsbD (n % 64)) h0
      simp only [BitVec.getLsbD_or, hone, decide_true, Bool.or_true, BitVec.getLsbD_zero] at this
      cases this
    · exact h.last k (by omega)
  · rw [← h.bits]
    unfold bitAt
    rw [hset]
    by_cases e : k / 64 = q
    · rw [if_pos e, BitVec.getLsbD_or, one_bit _ _ (by omega), e]
      congr 1
      rw [Bool.eq_iff_iff]
      simp only [decide_eq_true_eq, beq_iff_eq]
      omega
    · rw [if_neg e]
      have : (k == n) = false := by simp only [beq_eq_false_iff_ne]; intro e2; exact e (by rw [e2]; exact hq)
      rw [this, Bool.or_false]
end Go.Proofs.YtgkjkchhepmakaaDoor
