/-
  PLAIN MATHEMATICS FOR LAYER 6 (deadlinequeue), on: what a queue's heap holds, and jobs that are executed one after the other. Nothing of the program stands here.
-/
import Derived.Test.YtjcoghjkjnhljaaDqPlain
namespace Go.Proofs.Ytjcoghjkjnhljaa
open Go Go.Sort

theorem get_toList (d : Array It) (i : Nat) (h : i < d.size) : d.toList[i]? = some d[i]! := by simp [h]
theorem mem_get (d : Array It) {x : It} : x ∈ d.toList ↔ ∃ i, i < d.size ∧ d[i]! = x := by
  rw [List.mem_iff_getElem?]
  constructor
  · rintro ⟨i, hi⟩
    have hl : i < d.size := by have := (List.getElem?_eq_some_iff.1 hi).1; simpa using this
    rw [get_toList d i hl] at hi
    exact ⟨i, hl, Option.some.inj hi⟩
  · rintro ⟨i, hi, rfl⟩
    exact ⟨i, get_toList d i hi⟩
/-- The heap d is a queue with the items of the ordered list L. -/
structure Rep (d : Array It) (L : List It) : Prop where
  perm : d.toList.Perm L
  srt : Srt L
  ids : Ids L
  heap : HeapN d d.size
theorem Rep.size {d : Array It} {L : List It} (h : Rep d L) : d.size = L.length := by rw [← h.perm.length_eq]; simp
theorem Rep.idsd {d : Array It} {L : List It} (h : Rep d L) : Ids d.toList := ids_perm h.perm.symm h.ids
theorem rep_nil : Rep #[] [] := ⟨List.Perm.refl _, List.Pairwise.nil, List.Pairwise.nil, fun k _ hk => by simp at hk⟩
theorem ids_ne {d : Array It} (h : Ids d.toList) {i j : Nat} (hi : i < d.size) (hj : j < d.size) (hne : i ≠ j) : d[i]!.1 ≠ d[j]!.1 := by
  unfold Ids at h
  rw [List.pairwise_iff_getElem] at h
  have e : ∀ k (hk : k < d.size), d[k]! = d.toList[k]'(by simpa using hk) := fun k hk => by simp [hk]
  rw [e i hi, e j hj]
  rcases Nat.lt_or_gt_of_ne hne with hl | hl
  · exact h i j (by simpa using hi) (by simpa using hj) hl
  · exact (h j i (by simpa using hj) (by simpa using hi) hl).symm
/-- The first of the list is the first of the heap. -/
theorem Rep.head {d : Array It} {x : It} {L : List It} (h : Rep d (x :: L)) : d[0]! = x := by
  have hs := h.size
  rw [List.length_cons] at hs
  have hsrt := h.srt
  unfold Srt at hsrt
  rw [List.pairwise_cons] at hsrt
  have h0 : d[0]! ∈ x :: L := h.perm.mem_iff.1 ((mem_get d).2 ⟨0, by omega, rfl⟩)
  obtain ⟨k, hk, hkx⟩ := (mem_get d).1 (h.perm.mem_iff.2 (List.mem_cons_self (a := x) (l := L)))
  have h1 := h.heap.min k hk
  rw [hkx] at h1
  rcases List.mem_cons.1 h0 with e | h0
  · exact e
  · exact bef_anti (hsrt.1 _ h0) h1
theorem Rep.push {d d' : Array It} {L : List It} {x : It} (h : Rep d L) (hx : hasId x.1 L = false) (hp : d'.toList.Perm (d.toList ++ [x])) (hh : HeapN d' d'.size) : Rep d' (pushL L x) := by
  unfold pushL
  rw [rem_none hx]
  refine ⟨(hp.trans ((List.perm_append_singleton x d.toList).trans (h.perm.cons x))).trans (ins_perm x L).symm, ins_srt x L h.srt, ids_ins h.ids hx, hh⟩
/-- The list without the element at i. -/
theorem erase_split (l : List It) (i : Nat) (h : i < l.length) : l = l.take i ++ l[i] :: l.drop (i + 1) := by
  rw [← List.drop_eq_getElem_cons h, List.take_append_drop]
theorem rem_split {l : List It} (hl : Ids l) (i : Nat) (h : i < l.length) : rem l[i].1 l = l.take i ++ l.drop (i + 1) := by
  have e := erase_split l i h
  have h0 := hl
  rw [e] at h0
  unfold Ids at h0
  rw [List.pairwise_append, List.pairwise_cons] at h0
  have hn1 : ∀ y ∈ l.take i, y.1 ≠ l[i].1 := fun y hy => h0.2.2 y hy _ List.mem_cons_self
  have hn2 : ∀ y ∈ l.drop (i + 1), y.1 ≠ l[i].1 := fun y hy => (h0.2.1.1 y hy).symm
  conv => lhs; rw [show rem l[i].1 l = rem l[i].1 (l.take i ++ l[i] :: l.drop (i + 1)) from congrArg _ e]
  unfold rem
  rw [List.filter_append, List.filter_cons, if_neg (by simp), List.filter_eq_self.2 (fun y hy => by simpa using hn1 y hy), List.filter_eq_self.2 (fun y hy => by simpa using hn2 y hy)]
theorem rem_perm {l m : List It} (id : Int) (h : l.Perm m) : (rem id l).Perm (rem id m) := h.filter _
/-- The list with another element at i. -/
theorem set_perm (l : List It) (i : Nat) (x : It) (h : i < l.length) : (l.set i x).Perm (x :: (l.take i ++ l.drop (i + 1))) := by
  rw [List.set_eq_take_append_cons_drop, if_pos h]
  exact List.perm_middle
theorem Rep.replace {d d' : Array It} {L : List It} {x : It} {i : Nat} (h : Rep d L) (hi : i < d.size) (hx : d[i]!.1 = x.1) (hp : d'.toList.Perm (d.toList.set i x)) (hh : HeapN d' d'.size) : Rep d' (pushL L x) := by
  have hil : i < d.toList.length := by simpa using hi
  have hg : d.toList[i] = d[i]! := by simp [hi]
  have h1 := rem_split h.idsd i hil
  rw [hg, hx] at h1
  have h2 := (set_perm d.toList i x hil).trans ((h1 ▸ rem_perm x.1 h.perm).cons x)
  exact ⟨(hp.trans h2).trans (ins_perm x _).symm, ins_srt x _ (rem_srt _ h.srt), ids_ins (rem_ids _ h.ids) (rem_has _ _), hh⟩
theorem Rep.remove {d d' : Array It} {L : List It} {i : Nat} (h : Rep d L) (hp : (d'.toList ++ [d[i]!]).Perm d.toList) (hh : HeapN d' d'.size) : Rep d' (rem d[i]!.1 L) := by
  have h1 := rem_perm d[i]!.1 (hp.trans h.perm)
  have hids := ids_perm hp.symm h.idsd
  have hlen : d'.toList.length < (d'.toList ++ [d[i]!]).length := by simp
  have h2 := rem_split hids d'.toList.length hlen
  simp only [List.getElem_concat_length, List.take_left, List.drop_eq_nil_of_le (Nat.le_of_eq (show (d'.toList ++ [d[i]!]).length = d'.toList.length + 1 by simp)), List.append_nil] at h2
  rw [h2] at h1
  exact ⟨h1, rem_srt _ h.srt, rem_ids _ h.ids, hh⟩
theorem rem_head {x : It} {L : List It} (h : Ids (x :: L)) : rem x.1 (x :: L) = L := by
  have := rem_split h 0 (by simp)
  simpa using this

/-! ### Jobs one after the other -/
/-- The first job that does not meet its deadline. -/
def late (f : Int → Int) : Int → List It → Option It
  | _, [] => none
  | t, x :: l => if x.2 < t + f x.1 then some x else late f (t + f x.1) l
def isTm (t : Int) : Bool := decide (0 ≤ t) && decide (t ≤ 1099511627776)
theorem isTm_iff {t : Int} : isTm t = true ↔ 0 ≤ t ∧ t ≤ 1099511627776 := by simp [isTm]
/-- No two of them have the same ID. -/
def idsB : List It → Bool
  | [] => true
  | x :: l => !hasId x.1 l && idsB l
theorem idsB_iff : ∀ {l : List It}, idsB l = true ↔ Ids l
  | [] => by simp [idsB, Ids]
  | x :: l => by
    unfold Ids
    rw [List.pairwise_cons]
    simp only [idsB, Bool.and_eq_true, Bool.not_eq_true', idsB_iff (l := l)]
    unfold Ids
    rw [← Bool.not_eq_true, hasId_iff]
    constructor
    · rintro ⟨h1, h2⟩
      exact ⟨fun y hy e => h1 ⟨y, hy, e.symm⟩, h2⟩
    · rintro ⟨h1, h2⟩
      exact ⟨fun ⟨y, hy, e⟩ => h1 y hy e.symm, h2⟩
/-- The jobs' own numbers are times. -/
def okIt (f : Int → Int) (x : It) : Bool := isTm x.2 && isTm (f x.1)
def validB (f : Int → Int) (t : Int) (l : List It) : Bool := isTm t && idsB l && l.all (okIt f)
/-- The ordered list with the same items. -/
def isort (l : List It) : List It := l.foldr ins []
theorem isort_perm : ∀ l : List It, (isort l).Perm l
  | [] => List.Perm.refl _
  | x :: l => (ins_perm x (isort l)).trans ((isort_perm l).cons x)
theorem isort_srt : ∀ l : List It, Srt (isort l)
  | [] => List.Pairwise.nil
  | x :: l => ins_srt x _ (isort_srt l)
theorem isort_of {l m : List It} (h : m.Perm l) (hs : Srt m) : m = isort l := srt_unique (h.trans (isort_perm l).symm) hs (isort_srt l)
/-- What Feasible answers: an ID, and OK (0), ErrInvalid (1) or ErrExpired (14). -/
def feas (f : Int → Int) (t : Int) (l : List It) : Int × Int :=
  if validB f t l then match late f t (isort l) with | none => (0, 0) | some x => (x.1, 14) else (0, 1)
theorem valid_iff {f : Int → Int} {t : Int} {l : List It} : validB f t l = true ↔ isTm t = true ∧ Ids l ∧ ∀ x ∈ l, okIt f x = true := by
  simp only [validB, Bool.and_eq_true, idsB_iff, List.all_eq_true, and_assoc]
theorem feas_ok {f : Int → Int} {t : Int} {l : List It} : (feas f t l).2 = 0 ↔ validB f t l = true ∧ late f t (isort l) = none := by
  unfold feas
  split
  · rename_i h
    cases hl : late f t (isort l) <;> simp [h]
  · rename_i h
    simp [h]
theorem feas_inv {f : Int → Int} {t : Int} {l : List It} : (feas f t l).2 = 1 ↔ validB f t l = false := by
  unfold feas
  split
  · rename_i h
    cases hl : late f t (isort l) <;> simp [h]
  · rename_i h
    simpa using h
/-- Jobs that meet their deadlines meet them in the order of their items. -/
theorem late_ins (f : Int → Int) : ∀ (l : List It) (t : Int) (x : It), (∀ y ∈ x :: l, 0 ≤ f y.1) → late f t (x :: l) = none → late f t (ins x l) = none
  | [], _, _, _, h => h
  | y :: l, t, x, hf, h => by
    unfold ins
    split
    · exact h
    · rename_i hb
      rw [Bool.not_eq_true, nbef_iff] at hb
      have hx := hf x (by simp)
      have hy := hf y (by simp)
      simp only [late] at h ⊢
      split at h
      · cases h
      rename_i h1
      split at h
      · cases h
      rename_i h2
      rw [if_neg (by omega)]
      refine late_ins f l _ x (fun z hz => hf z (by rcases List.mem_cons.1 hz with rfl | hz <;> simp_all)) ?_
      simp only [late]
      rw [if_neg (by omega), show t + f y.1 + f x.1 = t + f x.1 + f y.1 by omega]
      exact h
theorem late_sort (f : Int → Int) : ∀ (l : List It) (t : Int), (∀ y ∈ l, 0 ≤ f y.1) → late f t l = none → late f t (isort l) = none
  | [], _, _, h => h
  | x :: l, t, hf, h => by
    show late f t (ins x (isort l)) = none
    refine late_ins f _ t x (fun y hy => hf y ?_) ?_
    · rcases List.mem_cons.1 hy with rfl | hy
      · exact List.mem_cons_self
      · exact List.mem_cons_of_mem _ ((isort_perm l).mem_iff.1 hy)
    · simp only [late] at h ⊢
      split at h
      · cases h
      · rename_i h1
        rw [if_neg h1]
        exact late_sort f l _ (fun y hy => hf y (List.mem_cons_of_mem _ hy)) h
/-- They also meet them when they start earlier, and when some are left out. -/
theorem late_less (f : Int → Int) : ∀ {m l : List It} (_ : m.Sublist l) (t t' : Int), t' ≤ t → (∀ y ∈ l, 0 ≤ f y.1) → late f t l = none → late f t' m = none
  | _, _, .slnil, _, _, _, _, _ => rfl
  | m, x :: l, .cons _ hs, t, t', ht, hf, h => by
    have hx := hf x (by simp)
    simp only [late] at h
    split at h
    · cases h
    · exact late_less f hs (t + f x.1) t' (by omega) (fun y hy => hf y (List.mem_cons_of_mem _ hy)) h
  | x :: m, _ :: l, .cons_cons _ hs, t, t', ht, hf, h => by
    simp only [late] at h ⊢
    split at h
    · cases h
    · rename_i h1
      rw [if_neg (by omega)]
      exact late_less f hs (t + f x.1) (t' + f x.1) (by omega) (fun y hy => hf y (List.mem_cons_of_mem _ hy)) h
theorem valid_less {f : Int → Int} {t t' : Int} {m l : List It} (hs : m.Sublist l) (ht : isTm t' = true) (h : validB f t l = true) : validB f t' m = true := by
  rw [valid_iff] at *
  exact ⟨ht, List.Pairwise.sublist hs h.2.1, fun x hx => h.2.2 x (hs.subset hx)⟩
theorem isort_less {m l : List It} (hs : m.Sublist l) : (isort m).Sublist (isort l) := by
  induction hs with
  | slnil => exact List.Sublist.refl _
  | cons x hs ih => exact ih.trans (ins_sub x _)
  | cons_cons x hs ih => exact ins_mono x (isort_srt _) ih
where
  ins_sub (x : It) : ∀ l : List It, l.Sublist (ins x l)
    | [] => List.nil_sublist _
    | y :: l => by
      unfold ins
      split
      · exact List.sublist_cons_self _ _
      · exact (ins_sub x l).cons_cons y
  ins_mono (x : It) : ∀ {m l : List It}, Srt l → m.Sublist l → (ins x m).Sublist (ins x l)
    | _, _, _, .slnil => List.Sublist.refl _
    | m, y :: l, hs, .cons _ h => by
      unfold Srt at hs
      rw [List.pairwise_cons] at hs
      show (ins x m).Sublist (if bef x y then x :: y :: l else y :: ins x l)
      split
      · rename_i hb
        have e : ins x m = x :: m := by
          cases m with
          | nil => rfl
          | cons z m =>
            have hz := hs.1 z (h.subset List.mem_cons_self)
            have hxz : bef x z = true := by
              rw [bef_iff] at *
              rw [nbef_iff] at hz
              omega
            show (if bef x z then x :: z :: m else z :: ins x m) = _
            rw [if_pos hxz]
        rw [e]
        exact (h.cons y).cons_cons x
      · exact (ins_mono x hs.2 h).cons y
    | y :: m, _ :: l, hs, .cons_cons _ h => by
      unfold Srt at hs
      rw [List.pairwise_cons] at hs
      show (if bef x y then x :: y :: m else y :: ins x m).Sublist (if bef x y then x :: y :: l else y :: ins x l)
      split
      · exact (h.cons_cons y).cons_cons x
      · exact (ins_mono x hs.2 h).cons_cons y
theorem ok_pos {f : Int → Int} {l : List It} (h : ∀ x ∈ l, okIt f x = true) : ∀ y ∈ l, 0 ≤ f y.1 := fun y hy => by
  have := h y hy
  simp only [okIt, Bool.and_eq_true, isTm_iff] at this
  exact this.2.1
/-- P6.2, of any order. -/
theorem feas_best {f : Int → Int} {t : Int} {l : List It} (hv : validB f t l = true) (h : late f t l = none) : (feas f t l).2 = 0 :=
  feas_ok.2 ⟨hv, late_sort f l t (ok_pos (valid_iff.1 hv).2.2) h⟩
/-- P6.2, of an earlier start and of fewer jobs. -/
theorem feas_less {f : Int → Int} {t t' : Int} {m l : List It} (hs : m.Sublist l) (h0 : 0 ≤ t') (ht : t' ≤ t) (h : (feas f t l).2 = 0) : (feas f t' m).2 = 0 := by
  rw [feas_ok] at *
  obtain ⟨hv, hl⟩ := h
  have hv' := valid_iff.1 hv
  have ht' := isTm_iff.1 hv'.1
  refine ⟨valid_less hs (isTm_iff.2 ⟨h0, by omega⟩) hv, late_less f (isort_less hs) t t' ht (fun y hy => ?_) hl⟩
  exact ok_pos hv'.2.2 y ((isort_perm l).mem_iff.1 hy)
end Go.Proofs.Ytjcoghjkjnhljaa
