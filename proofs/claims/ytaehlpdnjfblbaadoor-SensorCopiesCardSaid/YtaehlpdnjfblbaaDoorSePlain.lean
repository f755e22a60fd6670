/-
  PLAIN MATHEMATICS FOR LAYER 10 (sensor): lists of changes with ascending times, the value at a time, the next change, texts and what they spell. Nothing of the program stands here.
-/
import Derived.Test.YtaehlpdnjfblbaaDoorNum
namespace Go.Proofs.YtaehlpdnjfblbaaDoor
open Go
open Go.Lib (itoa)

/-- A change: its time and its value. -/
abbrev It := Int × Int
/-- Times that ascend, all greater than p and at most the greatest time. -/
def asc (p : Int) : List It → Bool
  | [] => true
  | x :: r => decide (p < x.1 ∧ x.1 ≤ 1099511627776) && asc x.1 r
/-- The time of the last change, or -1. -/
def lastT (p : Int) : List It → Int
  | [] => p
  | x :: r => lastT x.1 r
/-- A change may come behind those of xs. -/
def okAdd (xs : List It) (c : It) : Bool := decide (lastT (-1) xs < c.1 ∧ c.1 ≤ 1099511627776)
theorem asc_snoc (p : Int) (xs : List It) (c : It) : asc p (xs ++ [c]) = (asc p xs && decide (lastT p xs < c.1 ∧ c.1 ≤ 1099511627776)) := by
  induction xs generalizing p with
  | nil =>
    show (decide (p < c.1 ∧ c.1 ≤ 1099511627776) && true) = (true && decide (p < c.1 ∧ c.1 ≤ 1099511627776))
    rw [Bool.and_true, Bool.true_and]
  | cons x r ih =>
    show (decide (p < x.1 ∧ x.1 ≤ 1099511627776) && asc x.1 (r ++ [c])) = ((decide (p < x.1 ∧ x.1 ≤ 1099511627776) && asc x.1 r) && decide (lastT x.1 r < c.1 ∧ c.1 ≤ 1099511627776))
    rw [ih, Bool.and_assoc]
theorem asc_add (xs : List It) (c : It) (h : asc (-1) xs = true) : asc (-1) (xs ++ [c]) = okAdd xs c := by
  rw [asc_snoc, h, Bool.true_and]; rfl
theorem asc_left {p : Int} {xs ys : List It} (h : asc p (xs ++ ys) = true) : asc p xs = true := by
  induction xs generalizing p with
  | nil => rfl
  | cons x r ih =>
    simp only [List.cons_append, asc, Bool.and_eq_true] at h ⊢
    exact ⟨h.1, ih h.2⟩
theorem lastT_snoc (p : Int) (xs : List It) (c : It) : lastT p (xs ++ [c]) = c.1 := by
  induction xs generalizing p with
  | nil => rfl
  | cons x r ih => exact ih x.1
theorem lastT_at (p : Int) (xs : List It) (k : Nat) (x : It) (hk : xs[k]? = some x) : lastT p (xs.take (k + 1)) = x.1 := by
  have hl := (List.getElem?_eq_some_iff.1 hk).1
  rw [List.take_succ_eq_append_getElem hl, lastT_snoc]
  rw [List.getElem?_eq_getElem hl] at hk
  rw [Option.some.inj hk]
theorem asc_bd {p : Int} {xs : List It} (h : asc p xs = true) : ∀ x ∈ xs, p < x.1 ∧ x.1 ≤ 1099511627776 := by
  induction xs generalizing p with
  | nil => intro x hx; cases hx
  | cons y r ih =>
    simp only [asc, Bool.and_eq_true, decide_eq_true_eq] at h
    intro x hx
    rcases List.mem_cons.1 hx with rfl | hx
    · exact h.1
    · have := ih h.2 x hx
      omega
theorem lastT_bd {p : Int} {xs : List It} (h : asc p xs = true) (hp : p ≤ 1099511627776) : p ≤ lastT p xs ∧ lastT p xs ≤ 1099511627776 := by
  induction xs generalizing p with
  | nil => exact ⟨Int.le_refl _, hp⟩
  | cons y r ih =>
    simp only [asc, Bool.and_eq_true, decide_eq_true_eq] at h
    have := ih h.2 h.1.2
    simp only [lastT]
    omega
/-- Earlier places have earlier times. -/
theorem asc_lt {p : Int} {xs : List It} (h : asc p xs = true) {i j : Nat} {x y : It} (hi : xs[i]? = some x) (hj : xs[j]? = some y) (hij : i < j) : x.1 < y.1 := by
  induction xs generalizing p i j with
  | nil => simp at hi
  | cons z r ih =>
    simp only [asc, Bool.and_eq_true, decide_eq_true_eq] at h
    obtain ⟨j, rfl⟩ : ∃ k, j = k + 1 := ⟨j - 1, by omega⟩
    rw [List.getElem?_cons_succ] at hj
    cases i with
    | zero =>
      obtain rfl : z = x := by simpa using hi
      exact (asc_bd h.2 y (List.mem_of_getElem? hj)).1
    | succ i =>
      rw [List.getElem?_cons_succ] at hi
      exact ih h.2 hi hj (by omega)

/-! ### The value at a time, and the next change -/
/-- How many changes are not after the time t. -/
def aft (xs : List It) (t : Int) : Nat := xs.countP fun x => !decide (t < x.1)
/-- The place k parts the changes: those before are not after t, the others are. -/
def Parts (xs : List It) (t : Int) (k : Nat) : Prop := k ≤ xs.length ∧ (∀ i x, i < k → xs[i]? = some x → x.1 ≤ t) ∧ ∀ i x, k ≤ i → xs[i]? = some x → t < x.1
theorem Parts.tail {x : It} {xs : List It} {t : Int} {k : Nat} (h : Parts (x :: xs) t (k + 1)) : Parts xs t k :=
  ⟨by have := h.1; simp at this; omega, fun i y hi hy => h.2.1 (i + 1) y (by omega) (by simpa using hy), fun i y hi hy => h.2.2 (i + 1) y (by omega) (by simpa using hy)⟩
theorem Parts.eq {xs : List It} {t : Int} {k : Nat} (h : Parts xs t k) : k = aft xs t := by
  induction xs generalizing k with
  | nil => have := h.1; simpa [aft] using this
  | cons x r ih =>
    cases k with
    | zero =>
      have h0 := h.2.2 0 x (Nat.le_refl _) rfl
      have : Parts r t 0 := ⟨Nat.zero_le _, fun i y hi => absurd hi (Nat.not_lt_zero _), fun i y _ hy => h.2.2 (i + 1) y (Nat.zero_le _) (by simpa using hy)⟩
      rw [aft, List.countP_cons_of_neg (by simp; omega)]
      exact ih this
    | succ k =>
      have h0 := h.2.1 0 x (by omega) rfl
      rw [aft, List.countP_cons_of_pos (by simp; omega)]
      congr 1
      exact ih h.tail
theorem aft_parts {p : Int} {xs : List It} (h : asc p xs = true) (t : Int) : Parts xs t (aft xs t) := by
  induction xs generalizing p with
  | nil => exact ⟨Nat.le_refl _, fun i x _ hx => by simp at hx, fun i x _ hx => by simp at hx⟩
  | cons x r ih =>
    simp only [asc, Bool.and_eq_true, decide_eq_true_eq] at h
    have hb := asc_bd h.2
    obtain ⟨i1, i2, i3⟩ := ih h.2
    by_cases hx : t < x.1
    · have h0 : aft (x :: r) t = 0 := by
        rw [aft, List.countP_eq_zero]
        intro y hy
        rcases List.mem_cons.1 hy with rfl | hy
        · simp [hx]
        · have := (hb y hy).1
          simp; omega
      rw [h0]
      refine ⟨Nat.zero_le _, fun i y hi => absurd hi (Nat.not_lt_zero _), fun i y _ hy => ?_⟩
      have := List.mem_of_getElem? hy
      rcases List.mem_cons.1 this with rfl | hy
      · exact hx
      · have := (hb y hy).1; omega
    · have h0 : aft (x :: r) t = aft r t + 1 := by rw [aft, List.countP_cons_of_pos (by simp; omega)]; rfl
      rw [h0]
      refine ⟨by simpa using i1, fun i y hi hy => ?_, fun i y hi hy => ?_⟩
      · cases i with
        | zero => obtain rfl : x = y := by simpa using hy
                  omega
        | succ i => exact i2 i y (by omega) (by simpa using hy)
      · obtain ⟨i, rfl⟩ : ∃ k, i = k + 1 := ⟨i - 1, by omega⟩
        exact i3 i y (by omega) (by simpa using hy)
theorem aft_le (xs : List It) (t : Int) : aft xs t ≤ xs.length := List.countP_le_length
/-- The value at a time. -/
def valAt (xs : List It) (t : Int) : Int := if aft xs t = 0 then 0 else (xs.getD (aft xs t - 1) (0, 0)).2
/-- As the reference finds it. -/
def rval (v : Int) (t : Int) (xs : List It) : Int := xs.foldl (fun v x => if x.1 ≤ t then x.2 else v) v
theorem rval_gen {p : Int} {xs : List It} (h : asc p xs = true) (t v : Int) : rval v t xs = if aft xs t = 0 then v else (xs.getD (aft xs t - 1) (0, 0)).2 := by
  induction xs generalizing p v with
  | nil => rfl
  | cons x r ih =>
    simp only [asc, Bool.and_eq_true, decide_eq_true_eq] at h
    by_cases hx : x.1 ≤ t
    · have h0 : aft (x :: r) t = aft r t + 1 := by rw [aft, List.countP_cons_of_pos (by simp; omega)]; rfl
      have h1 : rval v t (x :: r) = rval x.2 t r := by unfold rval; rw [List.foldl_cons, if_pos hx]
      rw [h0, h1, ih h.2, if_neg (Nat.succ_ne_zero _), Nat.add_sub_cancel]
      cases ha : aft r t with
      | zero => simp
      | succ k => simp
    · have h0 : aft (x :: r) t = aft r t := by rw [aft, List.countP_cons_of_neg (by simp; omega)]; rfl
      have hr : aft r t = 0 := by
        rw [aft, List.countP_eq_zero]
        intro y hy
        have := (asc_bd h.2 y hy).1
        simp; omega
      have h1 : rval v t (x :: r) = rval v t r := by unfold rval; rw [List.foldl_cons, if_neg hx]
      rw [h0, h1, ih h.2, hr]
      rfl
theorem rval_val {p : Int} {xs : List It} (h : asc p xs = true) (t : Int) : rval 0 t xs = valAt xs t := rval_gen h t 0
theorem rval_snoc (v t : Int) (xs : List It) (x : It) : rval v t (xs ++ [x]) = if x.1 ≤ t then x.2 else rval v t xs := by unfold rval; rw [List.foldl_append]; rfl
/-- The first change after a time, with whether there is one. -/
def nxt (xs : List It) (t : Int) : It × Bool := match xs[aft xs t]? with | some x => (x, true) | none => ((0, 0), false)
theorem nxt_no {xs : List It} {t : Int} (h : aft xs t = xs.length) : nxt xs t = ((0, 0), false) := by
  unfold nxt; rw [h, List.getElem?_eq_none (Nat.le_refl _)]
theorem nxt_yes {xs : List It} {t : Int} {x : It} (h : xs[aft xs t]? = some x) : nxt xs t = (x, true) := by unfold nxt; rw [h]
/-- The reference walks from the first change on. -/
theorem nxt_first {p : Int} {xs : List It} (h : asc p xs = true) {t : Int} {k : Nat} (hk : ∀ i x, i < k → xs[i]? = some x → x.1 ≤ t) {x : It} (hx : xs[k]? = some x) (ht : t < x.1) : nxt xs t = (x, true) := by
  have hP : Parts xs t k := ⟨Nat.le_of_lt (List.getElem?_eq_some_iff.1 hx).1, hk, fun i y hi hy => by
    rcases Nat.eq_or_lt_of_le hi with rfl | hi
    · rw [hx] at hy; rw [← Option.some.inj hy]; exact ht
    · have := asc_lt h hx hy hi; omega⟩
  exact nxt_yes (by rw [← hP.eq]; exact hx)
theorem nxt_none {xs : List It} {t : Int} (hk : ∀ i x, i < xs.length → xs[i]? = some x → x.1 ≤ t) : nxt xs t = ((0, 0), false) := by
  have hP : Parts xs t xs.length := ⟨Nat.le_refl _, hk, fun i y hi hy => by rw [List.getElem?_eq_none hi] at hy; cases hy⟩
  exact nxt_no hP.eq.symm
/-- Between two changes. -/
theorem aft_mid {p : Int} {xs : List It} (h : asc p xs = true) {t : Int} (k : Nat) (hk : k ≤ xs.length) (h1 : lastT p (xs.take k) ≤ t) (h2 : ∀ x, xs[k]? = some x → t < x.1) : aft xs t = k := by
  refine (Parts.eq ⟨hk, fun i x hi hx => ?_, fun i x hi hx => ?_⟩).symm
  · have hk1 : k - 1 < xs.length := by omega
    have e := lastT_at p xs (k - 1) xs[k - 1] (List.getElem?_eq_getElem hk1)
    rw [show k - 1 + 1 = k by omega] at e
    rw [e] at h1
    rcases Nat.lt_or_ge i (k - 1) with hl | hg
    · have := asc_lt h hx (List.getElem?_eq_getElem hk1) hl; omega
    · obtain rfl : i = k - 1 := by omega
      rw [List.getElem?_eq_getElem hk1] at hx
      rw [← Option.some.inj hx]; exact h1
  · rcases Nat.eq_or_lt_of_le hi with rfl | hi
    · exact h2 x hx
    · have hl : k < xs.length := by have := (List.getElem?_eq_some_iff.1 hx).1; omega
      have := asc_lt h (List.getElem?_eq_getElem hl) hx hi
      have := h2 _ (List.getElem?_eq_getElem hl)
      omega

/-! ### Texts -/
/-- The line of a change, without its end. -/
def lineT (x : It) : List UInt8 := itoa x.1 ++ 32 :: itoa x.2
def fmtT (xs : List It) : List UInt8 := xs.flatMap fun x => lineT x ++ [10]
theorem fmtT_cons (x : It) (xs : List It) : fmtT (x :: xs) = lineT x ++ 10 :: fmtT xs := by simp [fmtT]
theorem fmtT_snoc (xs : List It) (x : It) : fmtT (xs ++ [x]) = fmtT xs ++ (lineT x ++ [10]) := by simp [fmtT]
theorem lineT_no (x : It) : (10 : UInt8) ∉ lineT x := fun h => by
  unfold lineT at h
  rcases List.mem_append.1 h with h | h
  · exact itoa_no (by decide) h
  · rcases List.mem_cons.1 h with h | h
    · exact absurd h (by decide)
    · exact itoa_no (by decide) h
theorem lineT_inj {x y : It} (h : lineT x = lineT y) : x = y := by
  obtain ⟨h1, h2⟩ := split_one h (itoa_no (by decide)) (itoa_no (by decide))
  exact Prod.ext (itoa_inj h1) (itoa_inj h2)
theorem lineT_ne (x : It) : lineT x ≠ [] := by unfold lineT; simp
/-- A trace: times that ascend, values within their range. -/
def good (xs : List It) : Prop := asc (-1) xs = true ∧ ∀ x ∈ xs, -32768 ≤ x.2 ∧ x.2 ≤ 32767
theorem good.left {xs ys : List It} (h : good (xs ++ ys)) : good xs := ⟨asc_left h.1, fun x hx => h.2 x (List.mem_append_left _ hx)⟩
theorem good.snoc {xs : List It} {x : It} (h : good xs) (ha : okAdd xs x = true) (hx : -32768 ≤ x.2 ∧ x.2 ≤ 32767) : good (xs ++ [x]) :=
  ⟨by rw [asc_add _ _ h.1]; exact ha, fun y hy => by
    rcases List.mem_append.1 hy with hy | hy
    · exact h.2 y hy
    · rw [List.mem_singleton.1 hy]; exact hx⟩
theorem good.last {xs : List It} {x : It} (h : good (xs ++ [x])) : (0 ≤ x.1 ∧ x.1 ≤ 1099511627776) ∧ -32768 ≤ x.2 ∧ x.2 ≤ 32767 := by
  have h1 := asc_bd h.1 x (by simp)
  exact ⟨by omega, h.2 x (by simp)⟩
theorem good.add {xs : List It} {x : It} (h : good (xs ++ [x])) : okAdd xs x = true := by rw [← asc_add _ _ (asc_left h.1)]; exact h.1
/-- No line of a change that may come next stands ahead. -/
def Bad (xs : List It) (r : List UInt8) : Prop := ∀ x t, r = lineT x ++ 10 :: t → ¬ good (xs ++ [x])
/-- The text s holds the lines of xs, and then r, which is empty or begins with an invalid line. -/
def Ends (s : List UInt8) (xs : List It) (r : List UInt8) : Prop := s = fmtT xs ++ r ∧ good xs ∧ (r = [] ∨ Bad xs r)
theorem ends_one (pre : List It) (s : List UInt8) (xs ys : List It) (r t : List UInt8) (hx : s = fmtT xs ++ r) (gx : good (pre ++ xs)) (bx : r = [] ∨ Bad (pre ++ xs) r) (hy : s = fmtT ys ++ t) (gy : good (pre ++ ys)) (by' : t = [] ∨ Bad (pre ++ ys) t) : xs = ys ∧ r = t := by
  induction xs generalizing pre s ys with
  | nil =>
    cases ys with
    | nil => exact ⟨rfl, by rw [hx] at hy; simpa [fmtT] using hy⟩
    | cons y ys =>
      have e : r = lineT y ++ 10 :: (fmtT ys ++ t) := by
        rw [hx, fmtT_cons] at hy
        simpa [fmtT] using hy
      rcases bx with h0 | hb
      · rw [h0] at e
        simp at e
      · refine absurd ?_ (hb y _ e)
        rw [List.append_nil]
        have : pre ++ y :: ys = (pre ++ [y]) ++ ys := by simp
        rw [this] at gy
        exact gy.left
  | cons x xs ih =>
    cases ys with
    | nil =>
      have e : t = lineT x ++ 10 :: (fmtT xs ++ r) := by
        rw [hy, fmtT_cons] at hx
        simpa [fmtT] using hx
      rcases by' with h0 | hb
      · rw [h0] at e
        simp at e
      · refine absurd ?_ (hb x _ e)
        rw [List.append_nil]
        have : pre ++ x :: xs = (pre ++ [x]) ++ xs := by simp
        rw [this] at gx
        exact gx.left
    | cons y ys =>
      have e : lineT x ++ 10 :: (fmtT xs ++ r) = lineT y ++ 10 :: (fmtT ys ++ t) := by
        rw [hx, fmtT_cons, fmtT_cons] at hy
        simpa using hy
      obtain ⟨e1, e2⟩ := split_one e (lineT_no x) (lineT_no y)
      obtain rfl := lineT_inj e1
      have q : ∀ zs : List It, pre ++ x :: zs = (pre ++ [x]) ++ zs := fun zs => by simp
      rw [q] at gx gy
      rw [q] at bx by'
      obtain ⟨h1, h2⟩ := ih (pre ++ [x]) _ ys rfl gx bx e2 gy by'
      exact ⟨by rw [h1], h2⟩
theorem Ends.one {s : List UInt8} {xs ys : List It} {r t : List UInt8} (h : Ends s xs r) (h' : Ends s ys t) : xs = ys ∧ r = t :=
  ends_one [] s xs ys r t h.1 h.2.1 h.2.2 h'.1 h'.2.1 h'.2.2
theorem Ends.fmt {xs : List It} (h : good xs) : Ends (fmtT xs) xs [] := ⟨by simp, h, .inl rfl⟩
theorem good_nil : good [] := ⟨rfl, fun x hx => by cases hx⟩
/-- No line feed: no line. -/
theorem bad_no {xs : List It} {r : List UInt8} (h : (10 : UInt8) ∉ r) : Bad xs r := fun x t e => absurd (by rw [e]; simp) h
/-- A line that is no change's. -/
theorem bad_line {xs : List It} {l t : List UInt8} (hl : (10 : UInt8) ∉ l) (h : ∀ x : It, (0 ≤ x.1 ∧ x.1 ≤ 1099511627776) ∧ -32768 ≤ x.2 ∧ x.2 ≤ 32767 → l ≠ lineT x) : Bad xs (l ++ 10 :: t) := fun x t' e hg => by
  obtain ⟨e1, _⟩ := split_one e hl (lineT_no x)
  exact h x hg.last e1
/-- A change's line that may not come next. -/
theorem bad_add {xs : List It} {c : It} {t : List UInt8} (h : okAdd xs c = false) : Bad xs (lineT c ++ 10 :: t) := fun x t' e hg => by
  obtain ⟨e1, _⟩ := split_one e (lineT_no c) (lineT_no x)
  obtain rfl := lineT_inj e1
  rw [hg.add] at h
  cases h
theorem Ends.stop {s : List UInt8} {xs : List It} {r : List UInt8} (h : s = fmtT xs ++ r) (g : good xs) (b : Bad xs r) : Ends s xs r := ⟨h, g, .inr b⟩
/-- The lengths of texts. -/
theorem itoa_len13 (n : Int) (h : 0 ≤ n ∧ n ≤ 1099511627776) : (itoa n).length ≤ 13 := by
  obtain ⟨u, rfl⟩ : ∃ u : Nat, n = u := ⟨n.toNat, by omega⟩
  rw [Lib.itoa_nonneg]
  exact decDigits_pow u 12 (by omega)
theorem itoa_len6 (n : Int) (h : -32768 ≤ n ∧ n ≤ 32767) : (itoa n).length ≤ 6 := by
  by_cases hn : n < 0
  · obtain ⟨u, rfl⟩ : ∃ u : Nat, n = -(u : Int) := ⟨n.natAbs, by omega⟩
    rw [Lib.itoa_neg u (by omega)]
    have := decDigits_pow u 4 (by omega)
    simp; omega
  · obtain ⟨u, rfl⟩ : ∃ u : Nat, n = u := ⟨n.toNat, by omega⟩
    rw [Lib.itoa_nonneg]
    have := decDigits_pow u 4 (by omega)
    omega
theorem lineT_len {x : It} (h : (0 ≤ x.1 ∧ x.1 ≤ 1099511627776) ∧ -32768 ≤ x.2 ∧ x.2 ≤ 32767) : (lineT x).length ≤ 20 := by
  have h1 := itoa_len13 x.1 h.1
  have h2 := itoa_len6 x.2 h.2
  unfold lineT
  simp; omega
theorem good.each {xs : List It} (h : good xs) : ∀ x ∈ xs, (0 ≤ x.1 ∧ x.1 ≤ 1099511627776) ∧ -32768 ≤ x.2 ∧ x.2 ≤ 32767 := fun x hx => by
  have := asc_bd h.1 x hx
  exact ⟨by omega, h.2 x hx⟩
theorem fmtT_len {xs : List It} (h : ∀ x ∈ xs, (0 ≤ x.1 ∧ x.1 ≤ 1099511627776) ∧ -32768 ≤ x.2 ∧ x.2 ≤ 32767) : (fmtT xs).length ≤ 21 * xs.length := by
  induction xs with
  | nil => simp [fmtT]
  | cons x r ih =>
    have h1 := lineT_len (h x (by simp))
    have h2 := ih fun y hy => h y (List.mem_cons_of_mem _ hy)
    rw [fmtT_cons]
    simp; omega
/-- As many lines as changes. -/
theorem fmtT_ge (xs : List It) : xs.length ≤ (fmtT xs).length := by
  induction xs with
  | nil => simp
  | cons x r ih => rw [fmtT_cons]; simp; omega
end Go.Proofs.YtaehlpdnjfblbaaDoor
