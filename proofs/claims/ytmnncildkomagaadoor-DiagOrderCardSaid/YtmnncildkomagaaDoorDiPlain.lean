/-
  LAYER 14 (diag), plainly: lines and columns of a text; what its functions give.
-/
import Derived.Test.YtmnncildkomagaaDoorNum
import Derived.Lib.Bytealg
import Derived.Lib.IndexLaws
import Derived.Lib.LastIndexByte
namespace Go.Proofs.YtmnncildkomagaaDoor
set_option linter.unusedSimpArgs false
set_option linter.unusedVariables false

/-- The line of an offset. -/
def lin (xs : List UInt8) : Nat → Nat
  | 0 => 1
  | p + 1 => if xs[p]? = some 10 then lin xs p + 1 else lin xs p
/-- Where its line begins. -/
def lst (xs : List UInt8) : Nat → Nat
  | 0 => 0
  | p + 1 => if xs[p]? = some 10 then p + 1 else lst xs p
/-- Its column. -/
def col (xs : List UInt8) (p : Nat) : Nat := p - lst xs p + 1
theorem lin_zero (xs : List UInt8) : lin xs 0 = 1 := rfl
theorem lst_zero (xs : List UInt8) : lst xs 0 = 0 := rfl
theorem lin_lf {xs : List UInt8} {p : Nat} (h : xs[p]? = some 10) : lin xs (p + 1) = lin xs p + 1 := by simp [lin, h]
theorem lin_no {xs : List UInt8} {p : Nat} (h : xs[p]? ≠ some 10) : lin xs (p + 1) = lin xs p := by simp [lin, h]
theorem lst_lf {xs : List UInt8} {p : Nat} (h : xs[p]? = some 10) : lst xs (p + 1) = p + 1 := by simp [lst, h]
theorem lst_no {xs : List UInt8} {p : Nat} (h : xs[p]? ≠ some 10) : lst xs (p + 1) = lst xs p := by simp [lst, h]
theorem lst_le (xs : List UInt8) : ∀ p, lst xs p ≤ p
  | 0 => Nat.le_refl 0
  | p + 1 => by
    unfold lst
    split
    · exact Nat.le_refl _
    · exact Nat.le_succ_of_le (lst_le xs p)
theorem lin_pos (xs : List UInt8) : ∀ p, 1 ≤ lin xs p
  | 0 => Nat.le_refl 1
  | p + 1 => by
    have := lin_pos xs p
    unfold lin
    split <;> omega
theorem lin_le (xs : List UInt8) : ∀ p, lin xs p ≤ p + 1
  | 0 => Nat.le_refl 1
  | p + 1 => by
    have := lin_le xs p
    unfold lin
    split <;> omega
theorem lin_step (xs : List UInt8) (p : Nat) : lin xs p ≤ lin xs (p + 1) := by
  conv => rhs; unfold lin
  split <;> omega
theorem lin_mono (xs : List UInt8) {p q : Nat} (h : p ≤ q) : lin xs p ≤ lin xs q := by
  induction h with
  | refl => exact Nat.le_refl _
  | step _ ih => exact Nat.le_trans ih (lin_step xs _)
/-- Offsets of one line: it begins at one place. -/
theorem lst_of_lin {xs : List UInt8} {p q : Nat} (h : p ≤ q) (hl : lin xs p = lin xs q) : lst xs p = lst xs q := by
  induction h with
  | refl => rfl
  | @step m hm ih =>
    have h1 := lin_mono xs hm
    have h2 := lin_step xs m
    by_cases hc : xs[m]? = some 10
    · have h3 := lin_lf hc
      have h4 : lin xs p = lin xs (m + 1) := hl
      omega
    · have h4 : lin xs p = lin xs (m + 1) := hl
      rw [lin_no hc] at h4
      exact (ih h4).trans (lst_no hc).symm
theorem place_inj {xs : List UInt8} {p q : Nat} (hl : lin xs p = lin xs q) (hc : col xs p = col xs q) : p = q := by
  unfold col at hc
  have hp := lst_le xs p
  have hq := lst_le xs q
  have e : lst xs p = lst xs q := by
    rcases Nat.le_total p q with h | h
    · exact lst_of_lin h hl
    · exact (lst_of_lin h hl.symm).symm
  omega
/-- No line feed from p up to q: they lie in one line. -/
theorem same_line {xs : List UInt8} {p : Nat} : ∀ {q : Nat}, p ≤ q → (∀ j, p ≤ j → j < q → xs[j]? ≠ some 10) → lin xs q = lin xs p ∧ lst xs q = lst xs p := by
  intro q h
  induction h with
  | refl => exact fun _ => ⟨rfl, rfl⟩
  | @step m hm ih =>
    intro hn
    obtain ⟨h1, h2⟩ := ih fun j hj hj' => hn j hj (Nat.lt_succ_of_lt hj')
    have := hn m hm (Nat.lt_succ_self m)
    exact ⟨(lin_no this).trans h1, (lst_no this).trans h2⟩
/-- The last line feed ahead of p. -/
theorem lst_spec {xs : List UInt8} {p s : Nat} (hs : s ≤ p) (h0 : s = 0 ∨ xs[s - 1]? = some 10) (hn : ∀ j, s ≤ j → j < p → xs[j]? ≠ some 10) : lst xs p = s := by
  rw [(same_line hs hn).2]
  rcases h0 with rfl | h0
  · rfl
  · cases s with
    | zero => rfl
    | succ t => exact lst_lf h0
theorem lst_lst (xs : List UInt8) : ∀ p, lst xs (lst xs p) = lst xs p
  | 0 => rfl
  | p + 1 => by
    by_cases h : xs[p]? = some 10
    · rw [lst_lf h, lst_lf h]
    · rw [lst_no h, lst_lst xs p]
theorem lin_lst (xs : List UInt8) : ∀ p, lin xs (lst xs p) = lin xs p
  | 0 => rfl
  | p + 1 => by
    by_cases h : xs[p]? = some 10
    · rw [lst_lf h]
    · rw [lst_no h, lin_no h, lin_lst xs p]
theorem lin_count (xs : List UInt8) : ∀ p, p ≤ xs.length → lin xs p = (xs.take p).count 10 + 1
  | 0, _ => by simp [lin]
  | p + 1, h => by
    have ih := lin_count xs p (by omega)
    have hp : p < xs.length := by omega
    rw [List.take_succ_eq_append_getElem hp, List.count_append]
    by_cases hc : xs[p]? = some 10
    · have e : xs[p] = 10 := by rw [List.getElem?_eq_getElem hp] at hc; exact Option.some.inj hc
      rw [lin_lf hc, ih, e]
      simp
    · have e : xs[p] ≠ 10 := fun e => hc (by rw [List.getElem?_eq_getElem hp, e])
      rw [lin_no hc, ih]
      have : ([xs[p]] : List UInt8).count 10 = 0 := by simp [List.count_singleton, e]
      omega
/-- e is where the line of p ends. -/
structure Lnd (xs : List UInt8) (p e : Nat) : Prop where
  le : p ≤ e
  len : e ≤ xs.length
  no : ∀ j, p ≤ j → j < e → xs[j]? ≠ some 10
  at' : e = xs.length ∨ xs[e]? = some 10
theorem Lnd.uniq {xs : List UInt8} {p e e' : Nat} (h : Lnd xs p e) (h' : Lnd xs p e') : e = e' := by
  have key : ∀ {a b : Nat}, Lnd xs p a → Lnd xs p b → ¬ a < b := fun {a b} ha hb hlt => by
    rcases ha.at' with h1 | h1
    · have := hb.len
      omega
    · exact hb.no a ha.le hlt h1
  have h1 := key h h'
  have h2 := key h' h
  omega
def lnd (xs : List UInt8) (p : Nat) : Nat := p + ((xs.drop p).takeWhile (· != 10)).length
theorem takeWhile_no : ∀ (l : List UInt8), (∀ j, j < (l.takeWhile (· != 10)).length → l[j]? ≠ some 10) ∧ ((l.takeWhile (· != 10)).length = l.length ∨ l[(l.takeWhile (· != 10)).length]? = some 10)
  | [] => ⟨fun j hj => by simp at hj, .inl rfl⟩
  | a :: l => by
    obtain ⟨h1, h2⟩ := takeWhile_no l
    by_cases h : a = 10
    · subst h
      simp
    · have e : (List.takeWhile (· != 10) (a :: l)) = a :: l.takeWhile (· != 10) := by simp [List.takeWhile_cons, h]
      rw [e]
      refine ⟨fun j hj => ?_, ?_⟩
      · cases j with
        | zero => simpa using h
        | succ j => simpa using h1 j (by simpa using hj)
      · simpa using h2
theorem lnd_is {xs : List UInt8} {p : Nat} (hp : p ≤ xs.length) : Lnd xs p (lnd xs p) := by
  obtain ⟨h1, h2⟩ := takeWhile_no (xs.drop p)
  have hle : ((xs.drop p).takeWhile (· != 10)).length ≤ (xs.drop p).length := by
    exact (List.takeWhile_prefix _).length_le
  rw [List.length_drop] at hle h2
  refine ⟨Nat.le_add_right _ _, by unfold lnd; omega, fun j hj hj' => ?_, ?_⟩
  · unfold lnd at hj'
    have := h1 (j - p) (by omega)
    rw [List.getElem?_drop, show p + (j - p) = j by omega] at this
    exact this
  · unfold lnd
    rcases h2 with h2 | h2
    · exact .inl (by omega)
    · rw [List.getElem?_drop] at h2
      exact .inr h2
theorem Lnd.of_same {xs : List UInt8} {p q e : Nat} (h : Lnd xs p e) (hq : p ≤ q) (hqe : q ≤ e) : Lnd xs q e :=
  ⟨hqe, h.len, fun j hj hj' => h.no j (Nat.le_trans hq hj) hj', h.at'⟩
/-- The library's searches. -/
theorem lnd_index {xs : List UInt8} {p : Nat} (hp : p ≤ xs.length) : (Lib.indexByte (xs.drop p) 10 = -1 ∧ Lnd xs p xs.length) ∨ ∃ o : Nat, Lib.indexByte (xs.drop p) 10 = o ∧ Lnd xs p (p + o) := by
  by_cases h : Lib.indexByte (xs.drop p) 10 = -1
  · refine .inl ⟨h, hp, Nat.le_refl _, fun j hj _ => ?_, .inl rfl⟩
    have := Lib.indexByte_none h (j - p)
    rwa [List.getElem?_drop, show p + (j - p) = j by omega] at this
  · have h0 := Lib.indexByte_ge (xs.drop p) 10
    obtain ⟨o, ho⟩ : ∃ o : Nat, Lib.indexByte (xs.drop p) 10 = o := ⟨(Lib.indexByte (xs.drop p) 10).toNat, by omega⟩
    obtain ⟨h1, h2⟩ := Lib.indexByte_some ho
    rw [List.getElem?_drop] at h1
    refine .inr ⟨o, ho, Nat.le_add_right _ _, ?_, fun j hj hj' => ?_, .inr h1⟩
    · have := (List.getElem?_eq_some_iff.1 h1).1
      omega
    · have := h2 (j - p) (by omega)
      rwa [List.getElem?_drop, show p + (j - p) = j by omega] at this
theorem get_bang (s : ByteArray) (j : Nat) (h : j < s.size) : (s.data[j]!).toNat = ((s.data.toList[j]'(by rw [Array.length_toList]; exact h)).toNat) := by
  have h' : j < s.data.size := h
  rw [getElem!_pos s.data j h']
  simp
theorem lst_last {xs : List UInt8} {p : Nat} (s : ByteArray) (hs : s.data.toList = xs.take p) (hp : p ≤ xs.length) : Lib.lastIndexByte s 10 + 1 = (lst xs p : Int) := by
  have hz : s.size = p := by
    have : s.data.toList.length = s.size := by rw [Array.length_toList]; rfl
    rw [← this, hs, List.length_take]
    omega
  have at' : ∀ j, j < p → (((s.data[j]!).toNat : Int) = 10 ↔ xs[j]? = some 10) := fun j hj => by
    rw [get_bang s j (by omega)]
    have e : s.data.toList[j]? = xs[j]? := by rw [hs, List.getElem?_take, if_pos hj]
    have hj' : j < s.data.toList.length := by simp only [Array.length_toList]; exact (show j < s.size by omega)
    rw [List.getElem?_eq_getElem hj'] at e
    rw [← e]
    constructor
    · intro h
      have : (s.data.toList[j]'hj') = 10 := UInt8.toNat_inj.1 (by simpa using (by omega : (s.data.toList[j]'hj').toNat = 10))
      rw [this]
    · intro h
      rw [Option.some.inj h]
      rfl
  rcases Lib.lastIndexByte_spec s 10 with ⟨h1, h2⟩ | ⟨i, hi, h1, h2, h3⟩
  · rw [h1, lst_spec (s := 0) (Nat.zero_le _) (.inl rfl) fun j _ hj h => h2 j (by omega) ((at' j hj).2 h)]
    rfl
  · rw [h1, lst_spec (s := i + 1) (by omega) (.inr ((at' i (by omega)).1 h2)) fun j hj hj' h => h3 j (by omega) (by omega) ((at' j hj').2 h)]
    rfl
/-- What Offset gives. -/
def OffIs (xs : List UInt8) (l c : Int) (r : Int) (ok : Bool) : Prop :=
  (ok = true ∧ ∃ i : Nat, i ≤ xs.length ∧ r = i ∧ (lin xs i : Int) = l ∧ (col xs i : Int) = c) ∨ (ok = false ∧ r = 0 ∧ ∀ i : Nat, i ≤ xs.length → ¬ ((lin xs i : Int) = l ∧ (col xs i : Int) = c))
theorem off_ex (xs : List UInt8) (l c : Int) : ∃ r ok, OffIs xs l c r ok := by
  by_cases h : ∃ i : Nat, i ≤ xs.length ∧ (lin xs i : Int) = l ∧ (col xs i : Int) = c
  · obtain ⟨i, h1, h2, h3⟩ := h
    exact ⟨i, true, .inl ⟨rfl, i, h1, rfl, h2, h3⟩⟩
  · exact ⟨0, false, .inr ⟨rfl, rfl, fun i hi hc => h ⟨i, hi, hc⟩⟩⟩
theorem off_uniq {xs : List UInt8} {l c r r' : Int} {ok ok' : Bool} (h : OffIs xs l c r ok) (h' : OffIs xs l c r' ok') : r = r' ∧ ok = ok' := by
  rcases h with ⟨rfl, i, h1, rfl, h2, h3⟩ | ⟨rfl, rfl, h1⟩ <;> rcases h' with ⟨rfl, j, g1, rfl, g2, g3⟩ | ⟨rfl, rfl, g1⟩
  · exact ⟨by rw [place_inj (xs := xs) (p := i) (q := j) (by omega) (by omega)], rfl⟩
  · exact absurd ⟨h2, h3⟩ (g1 i h1)
  · exact absurd ⟨g2, g3⟩ (h1 j g1)
  · exact ⟨rfl, rfl⟩
theorem off_at {xs : List UInt8} {i : Nat} (h : i ≤ xs.length) : OffIs xs (lin xs i) (col xs i) i true := .inl ⟨rfl, i, h, rfl, rfl, rfl⟩
/-- A line's offsets: its first is s, it ends at e. -/
theorem off_line {xs : List UInt8} {s e : Nat} (hs : lst xs s = s) (he : Lnd xs s e) {l c r : Int} (hl : (lin xs s : Int) = l) (hc : 1 ≤ c) (hc' : c ≤ (e : Int) - s + 1) (hr : r = s + c - 1) : OffIs xs l c r true := by
  obtain ⟨k, rfl⟩ : ∃ k : Nat, c = k + 1 := ⟨(c - 1).toNat, by omega⟩
  have hk : s + k ≤ e := by omega
  obtain ⟨h1, h2⟩ := same_line (xs := xs) (p := s) (q := s + k) (Nat.le_add_right _ _) fun j hj hj' => he.no j hj (by omega)
  refine .inl ⟨rfl, s + k, by have := he.len; omega, by omega, by rw [h1]; exact hl, ?_⟩
  unfold col
  rw [h2, hs]
  omega
theorem off_out {xs : List UInt8} {s e : Nat} (hs : lst xs s = s) (he : Lnd xs s e) {l c : Int} (hl : (lin xs s : Int) = l) (hc : c < 1 ∨ (e : Int) - s + 1 < c) : OffIs xs l c 0 false := by
  refine .inr ⟨rfl, rfl, fun i hi hh => ?_⟩
  obtain ⟨h1, h2⟩ := hh
  have e1 : lin xs i = lin xs s := by omega
  have hle : i ≤ e := by
    rcases Nat.lt_or_ge e i with h | h
    · rcases he.at' with h' | h'
      · have := hi
        omega
      · have a := lin_lf h'
        have b := lin_mono xs (show e + 1 ≤ i from h)
        have c := lin_mono xs he.le
        omega
    · exact h
  have hge : s ≤ i := by
    rcases Nat.lt_or_ge i s with h | h
    · have := lst_of_lin (Nat.le_of_lt h) e1
      have h4 := lst_le xs i
      omega
    · exact h
  have e2 : lst xs i = s := by rw [← lst_of_lin hge e1.symm, hs]
  unfold col at h2
  rw [e2] at h2
  omega
theorem off_far {xs : List UInt8} {s : Nat} (he : Lnd xs s xs.length) {l c : Int} (hl : (lin xs s : Int) < l) : OffIs xs l c 0 false := by
  refine .inr ⟨rfl, rfl, fun i hi hh => ?_⟩
  obtain ⟨h1, h2⟩ := hh
  have a := lin_mono xs hi
  have b := (same_line he.le he.no).1
  omega
theorem off_low {xs : List UInt8} {l c : Int} (hl : l < 1) : OffIs xs l c 0 false :=
  .inr ⟨rfl, rfl, fun i hi hh => by have := lin_pos xs i; omega⟩
/-- An offset, limited. -/
def clp (n : Nat) (p : Int) : Nat := if p < 0 then 0 else if (n : Int) < p then n else p.toNat
theorem clp_le (n : Nat) (p : Int) : clp n p ≤ n := by
  unfold clp
  split
  · omega
  · split <;> omega
theorem clp_int (n : Nat) (p : Int) : (clp n p : Int) = if p < 0 then 0 else if (n : Int) < p then (n : Int) else p := by
  unfold clp
  split
  · rfl
  · split
    · rfl
    · omega
theorem clp_self {n p : Nat} (h : p ≤ n) : clp n p = p := by
  have := clp_int n p
  split at this <;> (try split at this) <;> omega
/-- The white space ahead of a caret. -/
def blank (b : UInt8) : UInt8 := if b = 9 then 9 else 32
theorem lst_free {xs : List UInt8} : ∀ {q : Nat} (j : Nat), lst xs q ≤ j → j < q → xs[j]? ≠ some 10
  | 0, j, _, h => absurd h (Nat.not_lt_zero j)
  | q + 1, j, h, h' => by
    by_cases hc : xs[q]? = some 10
    · rw [lst_lf hc] at h
      omega
    · rw [lst_no hc] at h
      rcases Nat.lt_succ_iff_lt_or_eq.1 h' with h2 | rfl
      · exact lst_free j h h2
      · exact hc
/-- The line of an offset ends where the rest of the line ends. -/
theorem lnd_line {xs : List UInt8} {q : Nat} (hq : q ≤ xs.length) : Lnd xs q (lnd xs (lst xs q)) := by
  have h1 := lnd_is hq
  have h2 : Lnd xs (lst xs q) (lnd xs q) := ⟨Nat.le_trans (lst_le xs q) h1.le, h1.len, fun j hj hj' => by
    rcases Nat.lt_or_ge j q with h | h
    · exact lst_free j hj h
    · exact h1.no j h hj', h1.at'⟩
  rw [(lnd_is (Nat.le_trans (lst_le xs q) hq)).uniq h2]
  exact h1
/-- The line, and the white space below it. -/
def lineOf (xs : List UInt8) (a b : Nat) : List UInt8 := (xs.drop a).take (b - a)
def pad (xs : List UInt8) (a i : Nat) : List UInt8 := ((xs.drop a).take (i - a)).map blank
theorem pad_self (xs : List UInt8) (a : Nat) : pad xs a a = [] := by simp [pad]
theorem pad_snoc {xs : List UInt8} {a i : Nat} (h : a ≤ i) {c : UInt8} (hc : xs[i]? = some c) : pad xs a (i + 1) = pad xs a i ++ [blank c] := by
  unfold pad
  rw [show i + 1 - a = (i - a) + 1 by omega]
  have hlt : i < xs.length := (List.getElem?_eq_some_iff.1 hc).1
  have h1 : i - a < (xs.drop a).length := by rw [List.length_drop]; omega
  rw [List.take_succ_eq_append_getElem h1, List.map_append]
  have h2 : (xs.drop a)[i - a] = c := by
    have : (xs.drop a)[i - a]? = some c := by rw [List.getElem?_drop, show a + (i - a) = i by omega]; exact hc
    rw [List.getElem?_eq_getElem h1] at this
    exact Option.some.inj this
  rw [h2]
  rfl
theorem pad_len (xs : List UInt8) (a i : Nat) : (pad xs a i).length ≤ i - a := by
  unfold pad
  rw [List.length_map, List.length_take]
  exact Nat.min_le_left _ _
theorem lineOf_len (xs : List UInt8) (a b : Nat) : (lineOf xs a b).length ≤ b - a := by
  unfold lineOf
  rw [List.length_take]
  exact Nat.min_le_left _ _
/-- What Excerpt gives. -/
def exc (xs : List UInt8) (p : Nat) : List UInt8 := lineOf xs (lst xs p) (lnd xs (lst xs p)) ++ [10] ++ pad xs (lst xs p) p ++ [94] ++ [10]
/-- One line of Format. -/
def fline (xs : List UInt8) (p : Nat) (t : List UInt8) : List UInt8 := Lib.itoa (lin xs p) ++ [58] ++ Lib.itoa (col xs p) ++ [58, 32] ++ t ++ [10]
def fmt (xs : List UInt8) (l : List (Int × List UInt8)) : List UInt8 := l.flatMap fun x => fline xs (clp xs.length x.1) x.2
theorem fmt_snoc (xs : List UInt8) (l : List (Int × List UInt8)) (x : Int × List UInt8) : fmt xs (l ++ [x]) = fmt xs l ++ fline xs (clp xs.length x.1) x.2 := by simp [fmt]
end Go.Proofs.YtmnncildkomagaaDoor
