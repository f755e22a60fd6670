/-
  PLAIN MATHEMATICS FOR LAYER 13 (powertrace): periods and their texts, the meter, schedules in their order and how many there are. Nothing of the program stands here.
-/
import Derived.Test.YtapgpdgbdmnkgaaDoorNum
namespace Go.Proofs.YtapgpdgbdmnkgaaDoor
open Go
open Go.Lib (itoa)

/-- A period: its energy and its off time. -/
abbrev It := Int × Int
def okP (x : It) : Bool := decide (0 ≤ x.1 ∧ x.1 ≤ 1073741824) && decide (1 ≤ x.2 ∧ x.2 ≤ 1099511627776)
theorem okP_bd {x : It} (h : okP x = true) : (0 ≤ x.1 ∧ x.1 ≤ 1073741824) ∧ 1 ≤ x.2 ∧ x.2 ≤ 1099511627776 := by
  simpa [okP] using h
def okL (xs : List It) : Bool := xs.all okP
theorem okL_mem {xs : List It} (h : okL xs = true) : ∀ x ∈ xs, okP x = true := List.all_eq_true.1 h
theorem okL_of {xs : List It} (h : ∀ x ∈ xs, okP x = true) : okL xs = true := List.all_eq_true.2 h

/-! ### Texts -/
def wordT (x : It) : List UInt8 := itoa x.1 ++ 64 :: itoa x.2
def sepT (xs : List It) : List UInt8 := xs.flatMap fun x => 32 :: wordT x
/-- The text of a schedule. -/
def textT (xs : List It) : List UInt8 := (sepT xs).drop 1
theorem sepT_snoc (xs : List It) (x : It) : sepT (xs ++ [x]) = sepT xs ++ 32 :: wordT x := by simp [sepT]
theorem textT_nil : textT [] = [] := rfl
theorem textT_one (x : It) : textT [x] = wordT x := by simp [textT, sepT]
theorem textT_snoc {xs : List It} (h : 0 < xs.length) (x : It) : textT (xs ++ [x]) = textT xs ++ 32 :: wordT x := by
  cases xs with
  | nil => simp at h
  | cons y r => simp [textT, sepT]
theorem itoa_no64 (v : Int) : (64 : UInt8) ∉ itoa v := fun hc => by
  rcases itoa_mem hc with h1 | h1
  · exact absurd h1 (by decide)
  · exact absurd h1.2 (by decide)
theorem wordT_no32 (x : It) : (32 : UInt8) ∉ wordT x := by
  intro h
  simp only [wordT, List.mem_append, List.mem_cons] at h
  rcases h with h | h | h
  · exact itoa_no (by decide) h
  · exact absurd h (by decide)
  · exact itoa_no (by decide) h
theorem wordT_inj {x y : It} (h : wordT x = wordT y) : x = y := by
  obtain ⟨h1, h2⟩ := split_one h (itoa_no64 _) (itoa_no64 _)
  exact Prod.ext (itoa_inj h1) (itoa_inj h2)
theorem wordT_ne (x : It) : wordT x ≠ [] := by simp [wordT]
theorem itoa_len {v : Int} (h0 : 0 ≤ v) (h1 : v ≤ 1099511627776) : (itoa v).length ≤ 21 := Lib.itoa_length_le v (by omega) (by omega)
theorem wordT_len {x : It} (h : okP x = true) : (wordT x).length ≤ 43 := by
  obtain ⟨h1, h2⟩ := okP_bd h
  have := itoa_len (v := x.1) h1.1 (by omega)
  have := itoa_len (v := x.2) (by omega) h2.2
  simp only [wordT, List.length_append, List.length_cons]
  omega
theorem textT_take {xs : List It} (h : okL xs = true) (k : Nat) : (textT (xs.take k)).length ≤ 44 * k := by
  have hs : (sepT (xs.take k)).length ≤ 44 * k := by
    induction k generalizing xs with
    | zero => simp [sepT]
    | succ k ih =>
      cases xs with
      | nil => simp [sepT]
      | cons x r =>
        have h1 := wordT_len (okL_mem h x (by simp))
        have h2 := ih (xs := r) (okL_of fun y hy => okL_mem h y (by simp [hy]))
        simp only [List.take_succ_cons, sepT, List.flatMap_cons, List.length_append, List.length_cons] at h2 ⊢
        omega
  simp only [textT, List.length_drop]
  omega

/-! ### Words and what they spell -/
open Classical in
/-- The period whose word this is. -/
noncomputable def readW (w : List UInt8) : Option It := if h : ∃ x, okP x = true ∧ w = wordT x then some h.choose else none
theorem readW_some {w : List UInt8} {x : It} : readW w = some x ↔ okP x = true ∧ w = wordT x := by
  unfold readW
  constructor
  · intro h
    split at h
    · rename_i hx
      have := hx.choose_spec
      rw [Option.some.inj h] at this
      exact this
    · cases h
  · intro h
    have hx : ∃ x, okP x = true ∧ w = wordT x := ⟨x, h⟩
    rw [dif_pos hx]
    have := hx.choose_spec
    exact congrArg some (wordT_inj (this.2.symm.trans h.2))
theorem readW_none {w : List UInt8} : readW w = none ↔ ∀ x, okP x = true → w ≠ wordT x := by
  constructor
  · intro h x hx e
    rw [readW_some.2 ⟨hx, e⟩] at h
    cases h
  · intro h
    cases hr : readW w with
    | none => rfl
    | some x =>
      obtain ⟨h1, h2⟩ := readW_some.1 hr
      exact absurd h2 (h x h1)
/-- The parts between the spaces. -/
def wordsL : List UInt8 → List (List UInt8)
  | [] => [[]]
  | c :: r => if c = 32 then [] :: wordsL r else match wordsL r with
    | [] => [[c]]
    | a :: t => (c :: a) :: t
theorem wordsL_one {a : List UInt8} (h : (32 : UInt8) ∉ a) : wordsL a = [a] := by
  induction a with
  | nil => rfl
  | cons c r ih =>
    have h1 : c ≠ 32 := fun e => h (by simp [e])
    rw [wordsL, if_neg h1, ih (fun hc => h (by simp [hc]))]
theorem wordsL_cut {a : List UInt8} (h : (32 : UInt8) ∉ a) (b : List UInt8) : wordsL (a ++ 32 :: b) = a :: wordsL b := by
  induction a with
  | nil => simp [wordsL]
  | cons c r ih =>
    have h1 : c ≠ 32 := fun e => h (by simp [e])
    rw [List.cons_append, wordsL, if_neg h1, ih (fun hc => h (by simp [hc]))]
/-- What a list of words gives: the schedule, the number of the first invalid word, the error. -/
noncomputable def goP (acc : List It) (k : Nat) : List (List UInt8) → List It × Nat × Nat
  | [] => (acc, 0, 0)
  | w :: r => match readW w with
    | none => ([], k, 2)
    | some x => goP (acc ++ [x]) (k + 1) r
theorem goP_bad {w : List UInt8} {acc : List It} {k : Nat} {r : List (List UInt8)} (h : readW w = none) : goP acc k (w :: r) = ([], k, 2) := by simp [goP, h]
theorem goP_ok {w : List UInt8} {acc : List It} {k : Nat} {r : List (List UInt8)} {x : It} (h : readW w = some x) : goP acc k (w :: r) = goP (acc ++ [x]) (k + 1) r := by simp [goP, h]
noncomputable def parseT (s : List UInt8) : List It × Nat × Nat := if s = [] then ([], 0, 0) else goP [] 1 (wordsL s)
theorem parseT_nil : parseT [] = ([], 0, 0) := rfl
theorem parseT_cons {s : List UInt8} (h : s ≠ []) : parseT s = goP [] 1 (wordsL s) := if_neg h
theorem goP_all {xs : List It} (h : okL xs = true) (acc : List It) (k : Nat) : goP acc k (xs.map wordT) = (acc ++ xs, 0, 0) := by
  induction xs generalizing acc k with
  | nil => simp [goP]
  | cons x r ih =>
    rw [List.map_cons, goP_ok (readW_some.2 ⟨okL_mem h x (by simp), rfl⟩), ih (okL_of fun y hy => okL_mem h y (by simp [hy]))]
    simp
theorem words_text (x : It) (r : List It) : wordsL (wordT x ++ sepT r) = wordT x :: r.map wordT := by
  induction r generalizing x with
  | nil => simp [sepT, wordsL_one (wordT_no32 x)]
  | cons y r ih =>
    rw [show sepT (y :: r) = 32 :: (wordT y ++ sepT r) by simp [sepT], wordsL_cut (wordT_no32 x), ih]
    simp
/-- Parse inverts Format. -/
theorem parse_text {xs : List It} (h : okL xs = true) : parseT (textT xs) = (xs, 0, 0) := by
  cases xs with
  | nil => rfl
  | cons x r =>
    have e : textT (x :: r) = wordT x ++ sepT r := by simp [textT, sepT]
    rw [e, parseT_cons (by simp [wordT_ne]), words_text, ← List.map_cons, goP_all h]
    simp
theorem goP_inv (ws : List (List UInt8)) (acc xs : List It) (k : Nat) (hk : 0 < k) (h : goP acc k ws = (xs, 0, 0)) : ∃ ys, xs = acc ++ ys ∧ okL ys = true ∧ ws = ys.map wordT := by
  induction ws generalizing acc k with
  | nil =>
    simp only [goP, Prod.mk.injEq, and_true] at h
    exact ⟨[], by simp [h], rfl, rfl⟩
  | cons w r ih =>
    cases hr : readW w with
    | none =>
      rw [goP_bad hr] at h
      simp at h
    | some x =>
      rw [goP_ok hr] at h
      obtain ⟨ys, e, h1, h2⟩ := ih _ _ (by omega) h
      obtain ⟨h3, h4⟩ := readW_some.1 hr
      refine ⟨x :: ys, by rw [e]; simp, okL_of fun y hy => ?_, by rw [h2, h4]; rfl⟩
      rcases List.mem_cons.1 hy with rfl | hy
      · exact h3
      · exact okL_mem h1 y hy
def unwords : List (List UInt8) → List UInt8
  | [] => []
  | [a] => a
  | a :: b :: r => a ++ 32 :: unwords (b :: r)
theorem wordsL_ne (s : List UInt8) : wordsL s ≠ [] := by
  cases s with
  | nil => simp [wordsL]
  | cons c r =>
    rw [wordsL]
    split
    · simp
    · split <;> simp
theorem unwords_words (s : List UInt8) : unwords (wordsL s) = s := by
  induction s with
  | nil => rfl
  | cons c r ih =>
    rw [wordsL]
    split
    · rename_i hc
      cases hw : wordsL r with
      | nil => exact absurd hw (wordsL_ne r)
      | cons a t =>
        rw [unwords, ← hw, ih, hc]
        rfl
    · cases hw : wordsL r with
      | nil => exact absurd hw (wordsL_ne r)
      | cons a t =>
        rw [hw] at ih
        cases t with
        | nil =>
          simp only [unwords] at ih ⊢
          rw [ih]
        | cons b u =>
          simp only [unwords] at ih ⊢
          rw [List.cons_append, ih]
theorem unwords_text (x : It) (r : List It) : unwords ((x :: r).map wordT) = wordT x ++ sepT r := by
  induction r generalizing x with
  | nil => simp [unwords, sepT]
  | cons y r ih =>
    have := ih y
    rw [List.map_cons] at this
    rw [List.map_cons, List.map_cons, unwords, this]
    simp [sepT]
/-- Format inverts Parse. -/
theorem text_parse {s : List UInt8} {xs : List It} {k : Nat} (h : parseT s = (xs, k, 0)) : okL xs = true ∧ textT xs = s := by
  by_cases hs : s = []
  · subst hs
    rw [parseT_nil] at h
    simp only [Prod.mk.injEq] at h
    rw [← h.1]
    exact ⟨rfl, rfl⟩
  · rw [parseT_cons hs] at h
    have hk : k = 0 := by
      have key : ∀ (ws : List (List UInt8)) (acc : List It) (j : Nat), goP acc j ws = (xs, k, 0) → k = 0 := by
        intro ws
        induction ws with
        | nil => intro acc j h; simp only [goP, Prod.mk.injEq] at h; exact h.2.1.symm
        | cons w r ih =>
          intro acc j h
          cases hr : readW w with
          | none => rw [goP_bad hr] at h; simp at h
          | some x => rw [goP_ok hr] at h; exact ih _ _ h
      exact key _ _ _ h
    subst hk
    obtain ⟨ys, e, h1, h2⟩ := goP_inv _ _ _ _ (by decide) h
    rw [List.nil_append] at e
    subst e
    refine ⟨h1, ?_⟩
    have h3 := unwords_words s
    rw [h2] at h3
    cases xs with
    | nil => exact absurd h2 (wordsL_ne s)
    | cons x r =>
      rw [unwords_text] at h3
      rw [← h3]
      simp [textT, sepT]

/-! ### The meter -/
structure Mt where
  rest : List It
  left : Int
  dark : Bool
  count : Nat
def Mt.good (m : Mt) : Prop := okL m.rest = true ∧ (m.dark = true → m.rest ≠ []) ∧ (m.rest ≠ [] → 0 ≤ m.left ∧ m.left ≤ 1073741824)
def leftOf (rest : List It) (left : Int) : Int := match rest with
  | [] => left
  | x :: _ => x.1
def Mt.start (l : List It) : Mt := ⟨l, leftOf l 0, false, 0⟩
def Mt.shown (m : Mt) : Int := match m.rest with
  | [] => -1
  | _ :: _ => m.left
def Mt.spend (m : Mt) (n : Int) : Mt := if m.dark = true then m else match m.rest with
  | [] => m
  | _ :: _ => if m.left < max n 0 then ⟨m.rest, 0, true, m.count + 1⟩ else ⟨m.rest, m.left - max n 0, false, m.count⟩
def Mt.spent (m : Mt) (n : Int) : Bool := if m.dark = true then false else match m.rest with
  | [] => true
  | _ :: _ => !decide (m.left < max n 0)
def Mt.next (m : Mt) : Mt := if m.dark = true then ⟨m.rest.tail, leftOf m.rest.tail m.left, false, m.count⟩ else m
def Mt.off (m : Mt) : Int := if m.dark = true then (match m.rest with | [] => 0 | x :: _ => x.2) else 0
theorem Mt.start_good {l : List It} (h : okL l = true) : (Mt.start l).good := by
  refine ⟨h, (fun hd => by cases hd), fun hn => ?_⟩
  cases l with
  | nil => exact absurd rfl hn
  | cons x r => exact (okP_bd (okL_mem h x (by simp))).1
theorem Mt.spend_good {m : Mt} (h : m.good) (n : Int) : (m.spend n).good := by
  obtain ⟨h1, h2, h3⟩ := h
  unfold Mt.spend
  cases hd : m.dark with
  | true => simpa using ⟨h1, h2, h3⟩
  | false =>
    rw [if_neg (by decide)]
    cases hr : m.rest with
    | nil => exact ⟨h1, h2, h3⟩
    | cons x r =>
      have h4 := h3 (by rw [hr]; simp)
      rw [hr] at h1
      dsimp only
      split
      · exact ⟨h1, (fun _ => by simp), fun _ => ⟨Int.le_refl _, (by decide : (0 : Int) ≤ 1073741824)⟩⟩
      · exact ⟨h1, (fun h => by cases h), fun _ => (show 0 ≤ m.left - max n 0 ∧ m.left - max n 0 ≤ 1073741824 by omega)⟩
theorem Mt.next_good {m : Mt} (h : m.good) : m.next.good := by
  obtain ⟨h1, h2, h3⟩ := h
  unfold Mt.next
  split
  · have ht : okL m.rest.tail = true := okL_of fun y hy => okL_mem h1 y (List.mem_of_mem_tail hy)
    refine ⟨ht, (fun h => by cases h), fun hn => ?_⟩
    show 0 ≤ leftOf m.rest.tail m.left ∧ leftOf m.rest.tail m.left ≤ 1073741824
    cases hr : m.rest.tail with
    | nil => exact absurd hr hn
    | cons x r =>
      rw [hr] at ht
      exact (okP_bd (okL_mem ht x (by simp))).1
  · exact ⟨h1, h2, h3⟩
end Go.Proofs.YtapgpdgbdmnkgaaDoor
