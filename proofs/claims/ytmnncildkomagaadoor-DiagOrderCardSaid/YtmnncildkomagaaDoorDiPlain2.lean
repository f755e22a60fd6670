/-
  LAYER 14 (diag), plainly: diagnostics in order.
-/
import Derived.Test.YtmnncildkomagaaDoorDiPlain
namespace Go.Proofs.YtmnncildkomagaaDoor
set_option linter.unusedSimpArgs false
set_option linter.unusedVariables false

/-- A diagnostic. -/
abbrev It := Int × List UInt8
def bef (x y : It) : Bool := decide (x.1 < y.1) || (decide (x.1 = y.1) && decide (x.2 < y.2))
theorem bytes_irr (a : List UInt8) : ¬ a < a := List.lt_irrefl a
theorem bytes_tri (a b : List UInt8) : a < b ∨ a = b ∨ b < a := by
  by_cases h : a < b
  · exact .inl h
  · by_cases h' : b < a
    · exact .inr (.inr h')
    · exact .inr (.inl (List.le_antisymm (List.not_lt.1 h') (List.not_lt.1 h)))
theorem bytes_tra {a b c : List UInt8} (h : a < b) (h' : b < c) : a < c := List.lt_trans h h'
theorem bef_iff {x y : It} : bef x y = true ↔ x.1 < y.1 ∨ (x.1 = y.1 ∧ x.2 < y.2) := by simp [bef]
theorem bef_irr (x : It) : bef x x = false := by
  rw [Bool.eq_false_iff]
  intro h
  rcases bef_iff.1 h with h | ⟨_, h⟩
  · omega
  · exact bytes_irr _ h
theorem bef_tra {x y z : It} (h : bef x y = true) (h' : bef y z = true) : bef x z = true := by
  rw [bef_iff] at *
  rcases h with h | ⟨h, g⟩ <;> rcases h' with h' | ⟨h', g'⟩
  · exact .inl (by omega)
  · exact .inl (by omega)
  · exact .inl (by omega)
  · exact .inr ⟨by omega, bytes_tra g g'⟩
theorem bef_tri (x y : It) : bef x y = true ∨ x = y ∨ bef y x = true := by
  rw [bef_iff, bef_iff]
  rcases Int.lt_trichotomy x.1 y.1 with h | h | h
  · exact .inl (.inl h)
  · rcases bytes_tri x.2 y.2 with g | g | g
    · exact .inl (.inr ⟨h, g⟩)
    · exact .inr (.inl (Prod.ext h g))
    · exact .inr (.inr (.inr ⟨h.symm, g⟩))
  · exact .inr (.inr (.inl h))
theorem bef_asy {x y : It} (h : bef x y = true) : bef y x = false := by
  rw [Bool.eq_false_iff]
  intro h'
  have := bef_tra h h'
  rw [bef_irr] at this
  exact Bool.noConfusion this
/-- In ascending order, none twice. -/
def Srt (l : List It) : Prop := l.Pairwise fun x y => bef x y = true
theorem Srt.uniq : ∀ {a b : List It}, Srt a → Srt b → (∀ x, x ∈ a ↔ x ∈ b) → a = b
  | [], [], _, _, _ => rfl
  | [], y :: b, _, _, h => absurd ((h y).2 (List.mem_cons_self ..)) (by simp)
  | x :: a, [], _, _, h => absurd ((h x).1 (List.mem_cons_self ..)) (by simp)
  | x :: a, y :: b, ha, hb, h => by
    obtain ⟨ha1, ha2⟩ := List.pairwise_cons.1 ha
    obtain ⟨hb1, hb2⟩ := List.pairwise_cons.1 hb
    have e : x = y := by
      rcases List.mem_cons.1 ((h x).1 (List.mem_cons_self ..)) with e | hx
      · exact e
      · rcases List.mem_cons.1 ((h y).2 (List.mem_cons_self ..)) with e | hy
        · exact e.symm
        · have h1 := hb1 x hx
          have h2 := bef_asy (ha1 y hy)
          rw [h1] at h2
          exact Bool.noConfusion h2
    subst e
    have hx1 : x ∉ a := fun hx => by have := ha1 x hx; rw [bef_irr] at this; exact Bool.noConfusion this
    have hx2 : x ∉ b := fun hx => by have := hb1 x hx; rw [bef_irr] at this; exact Bool.noConfusion this
    rw [Srt.uniq ha2 hb2 fun z => ?_]
    constructor
    · intro hz
      rcases List.mem_cons.1 ((h z).1 (List.mem_cons_of_mem _ hz)) with e | hz'
      · exact absurd (e ▸ hz) hx1
      · exact hz'
    · intro hz
      rcases List.mem_cons.1 ((h z).2 (List.mem_cons_of_mem _ hz)) with e | hz'
      · exact absurd (e ▸ hz) hx2
      · exact hz'
theorem Srt.nodup {a : List It} (h : Srt a) : a.Nodup := h.imp fun {x y} h e => by rw [e, bef_irr] at h; exact Bool.noConfusion h
theorem srt_of {a : List It} (h : a.Pairwise fun x y => bef y x = false) (hn : a.Nodup) : Srt a := by
  refine (h.and hn).imp fun {x y} hxy => ?_
  rcases bef_tri x y with h1 | h1 | h1
  · exact h1
  · exact absurd h1 hxy.2
  · rw [hxy.1] at h1
    exact Bool.noConfusion h1
/-- What is added to an ordered list. -/
def ins (x : It) : List It → List It
  | [] => [x]
  | y :: l => if bef x y = true then x :: y :: l else y :: ins x l
theorem mem_ins (x : It) : ∀ (l : List It) (z : It), z ∈ ins x l ↔ z = x ∨ z ∈ l
  | [], z => by simp [ins]
  | y :: l, z => by
    unfold ins
    split
    · simp
    · rw [List.mem_cons, mem_ins x l z, List.mem_cons]
      exact or_left_comm
theorem length_ins (x : It) : ∀ (l : List It), (ins x l).length = l.length + 1
  | [] => rfl
  | y :: l => by
    unfold ins
    split
    · rfl
    · simp [length_ins x l]
theorem srt_ins (x : It) : ∀ (l : List It), Srt l → x ∉ l → Srt (ins x l)
  | [], _, _ => List.pairwise_singleton _ _
  | y :: l, h, hx => by
    obtain ⟨h1, h2⟩ := List.pairwise_cons.1 h
    unfold ins
    split
    · rename_i hb
      exact List.pairwise_cons.2 ⟨fun z hz => by
        rcases List.mem_cons.1 hz with rfl | hz
        · exact hb
        · exact bef_tra hb (h1 z hz), h⟩
    · rename_i hb
      refine List.pairwise_cons.2 ⟨fun z hz => ?_, srt_ins x l h2 fun hm => hx (List.mem_cons_of_mem _ hm)⟩
      rcases (mem_ins x l z).1 hz with rfl | hz
      · rcases bef_tri y z with h' | h' | h'
        · exact h'
        · exact absurd (h' ▸ List.mem_cons_self ..) hx
        · exact absurd h' hb
      · exact h1 z hz
theorem ins_any {x : It} : ∀ {l : List It} (y : It), (∃ z ∈ l, bef x z = true) → ins x (l ++ [y]) = ins x l ++ [y]
  | [], y, ⟨z, hz, _⟩ => absurd hz (by simp)
  | a :: l, y, ⟨z, hz, hb⟩ => by
    by_cases ha : bef x a = true
    · simp [ins, ha]
    · have : ∃ z ∈ l, bef x z = true := by
        rcases List.mem_cons.1 hz with rfl | hz
        · exact absurd hb ha
        · exact ⟨z, hz, hb⟩
      simp [ins, ha, ins_any y this]
theorem ins_none {x : It} : ∀ {l : List It}, (∀ z ∈ l, bef x z = false) → ins x l = l ++ [x]
  | [], _ => rfl
  | a :: l, h => by
    have h1 := h a (List.mem_cons_self ..)
    simp [ins, h1, ins_none fun z hz => h z (List.mem_cons_of_mem _ hz)]
theorem ins_here {x : It} {l : List It} {y : It} (h : ∀ z ∈ l, bef x z = false) (hy : bef x y = true) : ins x (l ++ [y]) = l ++ [x, y] := by
  induction l with
  | nil => simp [ins, hy]
  | cons a l ih =>
    have h1 := h a (List.mem_cons_self ..)
    simp [ins, h1, ih fun z hz => h z (List.mem_cons_of_mem _ hz)]
def addL (L : List It) (x : It) : List It := if x ∈ L then L else ins x L
theorem srt_add {L : List It} (h : Srt L) (x : It) : Srt (addL L x) := by
  unfold addL
  split
  · exact h
  · exact srt_ins x L h (by assumption)
theorem mem_add (L : List It) (x z : It) : z ∈ addL L x ↔ z = x ∨ z ∈ L := by
  unfold addL
  split
  · rename_i h
    constructor
    · exact .inr
    · rintro (rfl | h')
      · exact h
      · exact h'
  · exact mem_ins x L z
theorem length_add (L : List It) (x : It) : L.length ≤ (addL L x).length ∧ (addL L x).length ≤ L.length + 1 := by
  unfold addL
  split
  · omega
  · rw [length_ins]
    omega
/-- The diagnostics of a list, in order. -/
def setL (l : List It) : List It := l.foldl addL []
theorem setL_snoc (l : List It) (x : It) : setL (l ++ [x]) = addL (setL l) x := by simp [setL]
theorem fold_srt : ∀ (l L : List It), Srt L → Srt (l.foldl addL L)
  | [], _, h => h
  | x :: l, L, h => fold_srt l _ (srt_add h x)
theorem fold_mem : ∀ (l L : List It) (z : It), z ∈ l.foldl addL L ↔ z ∈ l ∨ z ∈ L
  | [], L, z => by simp
  | x :: l, L, z => by
    rw [List.foldl_cons, fold_mem l _ z, mem_add, List.mem_cons, or_assoc, or_left_comm]
theorem setL_srt (l : List It) : Srt (setL l) := fold_srt l [] List.Pairwise.nil
theorem mem_setL (l : List It) (z : It) : z ∈ setL l ↔ z ∈ l := by
  unfold setL
  rw [fold_mem]
  simp
theorem setL_len (l : List It) : (setL l).length ≤ l.length := by
  unfold setL
  have : ∀ (l L : List It), (l.foldl addL L).length ≤ L.length + l.length := by
    intro l
    induction l with
    | nil => intro L; simp
    | cons x l ih =>
      intro L
      have h1 := ih (addL L x)
      have h2 := (length_add L x).2
      rw [List.foldl_cons, List.length_cons]
      omega
  have := this l []
  simpa using this
theorem setL_uniq {l L : List It} (h : Srt L) (hm : ∀ z, z ∈ L ↔ z ∈ l) : L = setL l := h.uniq (setL_srt l) fun z => (hm z).trans (mem_setL l z).symm
/-- Sorted, as the library sorts. -/
theorem sort_set {K l : List It} (hn : K.Nodup) (hm : ∀ z, z ∈ K ↔ z ∈ l) : K.mergeSort (fun x y => !bef y x) = setL l := by
  have hp := List.mergeSort_perm K (fun x y => !bef y x)
  refine setL_uniq (srt_of ?_ (hp.nodup_iff.2 hn)) fun z => (hp.mem_iff).trans (hm z)
  have h := List.pairwise_mergeSort (le := fun x y : It => !bef y x) (fun a b c hab hbc => ?_) (fun a b => ?_) K
  · exact h.imp fun {x y} hxy => by simpa using hxy
  · simp only [Bool.not_eq_true'] at *
    rw [Bool.eq_false_iff]
    intro hca
    rcases bef_tri a b with h | h | h
    · have := bef_tra hca h
      rw [hbc] at this
      exact Bool.noConfusion this
    · subst h
      rw [hbc] at hca
      exact Bool.noConfusion hca
    · rw [hab] at h
      exact Bool.noConfusion h
  · rcases bef_tri a b with h | h | h
    · simp [bef_asy h]
    · subst h
      simp [bef_irr]
    · simp [bef_asy h]
end Go.Proofs.YtmnncildkomagaaDoor
