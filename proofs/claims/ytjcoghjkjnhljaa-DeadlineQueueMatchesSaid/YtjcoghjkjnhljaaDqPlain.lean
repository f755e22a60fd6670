/-
  PLAIN MATHEMATICS FOR LAYER 6 (deadlinequeue): the order of items, ordered lists, heaps, jobs one after the other. Nothing of the program stands here.
-/
import Derived.Sort.LotA
namespace Go.Proofs.Ytjcoghjkjnhljaa
open Go Go.Sort

/-- An item: its ID and its deadline. -/
abbrev It := Int × Int
/-- a comes before b. -/
def bef (a b : It) : Bool := decide (a.2 < b.2) || (decide (a.2 = b.2) && decide (a.1 < b.1))
theorem bef_iff {a b : It} : bef a b = true ↔ a.2 < b.2 ∨ (a.2 = b.2 ∧ a.1 < b.1) := by simp [bef]
theorem nbef_iff {a b : It} : bef a b = false ↔ b.2 < a.2 ∨ (a.2 = b.2 ∧ b.1 ≤ a.1) := by
  rw [← Bool.not_eq_true, bef_iff]
  omega
theorem bef_irrefl (a : It) : bef a a = false := by rw [nbef_iff]; omega
theorem bef_trans {a b c : It} (h : bef a b = true) (h' : bef b c = true) : bef a c = true := by rw [bef_iff] at *; omega
theorem bef_asymm {a b : It} (h : bef a b = true) : bef b a = false := by rw [bef_iff] at h; rw [nbef_iff]; omega
theorem nbef_trans {a b c : It} (h : bef a b = false) (h' : bef b c = false) : bef a c = false := by rw [nbef_iff] at *; omega
theorem bef_nbef {a b c : It} (h : bef a b = true) (h' : bef c b = false) : bef c a = false := by rw [bef_iff] at h; rw [nbef_iff] at *; omega
theorem nbef_bef {a b c : It} (h : bef b a = false) (h' : bef b c = true) : bef a c = true := by rw [nbef_iff] at h; rw [bef_iff] at *; omega
theorem bef_anti {a b : It} (h : bef a b = false) (h' : bef b a = false) : a = b := by
  rw [nbef_iff] at *
  exact Prod.ext (by omega) (by omega)

/-! ### Ordered lists -/
/-- x put into an ordered list. -/
def ins (x : It) : List It → List It
  | [] => [x]
  | y :: ys => if bef x y then x :: y :: ys else y :: ins x ys
/-- The list without the ID. -/
def rem (id : Int) (l : List It) : List It := l.filter fun x => x.1 != id
def hasId (id : Int) (l : List It) : Bool := l.any fun x => x.1 == id
def Srt (l : List It) : Prop := l.Pairwise fun a b => bef b a = false
def Ids (l : List It) : Prop := l.Pairwise fun a b => a.1 ≠ b.1
theorem ins_perm (x : It) : ∀ l : List It, (ins x l).Perm (x :: l)
  | [] => List.Perm.refl _
  | y :: ys => by
    unfold ins
    split
    · exact List.Perm.refl _
    · exact ((ins_perm x ys).cons y).trans (List.Perm.swap x y ys)
theorem ins_len (x : It) (l : List It) : (ins x l).length = l.length + 1 := by rw [(ins_perm x l).length_eq]; rfl
theorem ins_srt (x : It) : ∀ l : List It, Srt l → Srt (ins x l)
  | [], _ => List.pairwise_singleton _ _
  | y :: ys, h => by
    unfold ins Srt at *
    rw [List.pairwise_cons] at h
    split
    · rename_i hb
      refine List.pairwise_cons.2 ⟨fun z hz => ?_, List.pairwise_cons.2 h⟩
      rcases List.mem_cons.1 hz with rfl | hz
      · exact bef_asymm hb
      · exact nbef_trans (h.1 z hz) (bef_asymm hb)
    · rename_i hb
      refine List.pairwise_cons.2 ⟨fun z hz => ?_, ins_srt x ys h.2⟩
      rcases List.mem_cons.1 ((ins_perm x ys).mem_iff.1 hz) with rfl | hz
      · simpa using hb
      · exact h.1 z hz
theorem srt_unique : ∀ {l m : List It}, l.Perm m → Srt l → Srt m → l = m
  | [], m, h, _, _ => (List.nil_perm.1 h).symm
  | x :: l, [], h, _, _ => by cases (List.perm_nil.1 h)
  | x :: l, y :: m, h, hl, hm => by
    unfold Srt at hl hm
    rw [List.pairwise_cons] at hl hm
    have hxy : x = y := by
      have h1 : x ∈ y :: m := h.mem_iff.1 (by simp)
      have h2 : y ∈ x :: l := h.mem_iff.2 (by simp)
      rcases List.mem_cons.1 h1 with e | h1
      · exact e
      rcases List.mem_cons.1 h2 with e | h2
      · exact e.symm
      exact bef_anti (hm.1 x h1) (hl.1 y h2)
    subst hxy
    rw [srt_unique (List.perm_cons x |>.1 h) hl.2 hm.2]
theorem rem_srt {l : List It} (id : Int) (h : Srt l) : Srt (rem id l) := List.Pairwise.filter _ h
theorem rem_ids {l : List It} (id : Int) (h : Ids l) : Ids (rem id l) := List.Pairwise.filter _ h
theorem rem_le (id : Int) (l : List It) : (rem id l).length ≤ l.length := List.length_filter_le _ _
theorem rem_none {l : List It} {id : Int} (h : hasId id l = false) : rem id l = l := by
  unfold rem
  rw [List.filter_eq_self]
  intro x hx
  simp only [hasId, List.any_eq_false] at h
  simpa using h x hx
theorem rem_has (id : Int) (l : List It) : hasId id (rem id l) = false := by
  simp only [hasId, rem, List.any_eq_false]
  intro x hx
  simpa using (List.mem_filter.1 hx).2
theorem hasId_iff {id : Int} {l : List It} : hasId id l = true ↔ ∃ x ∈ l, x.1 = id := by simp [hasId]
theorem hasId_perm {id : Int} {l m : List It} (h : l.Perm m) : hasId id l = hasId id m := by
  rw [Bool.eq_iff_iff, hasId_iff, hasId_iff]
  exact ⟨fun ⟨x, hx, e⟩ => ⟨x, h.mem_iff.1 hx, e⟩, fun ⟨x, hx, e⟩ => ⟨x, h.mem_iff.2 hx, e⟩⟩
/-- It is shorter just where the ID was there. -/
theorem rem_lt (id : Int) (l : List It) : decide ((rem id l).length < l.length) = hasId id l := by
  cases h : hasId id l with
  | false => rw [rem_none h]; simp
  | true =>
    obtain ⟨x, hx, rfl⟩ := hasId_iff.1 h
    rw [decide_eq_true_eq]
    have h1 : (rem x.1 l).length ≤ l.length := rem_le _ _
    rcases Nat.lt_or_ge (rem x.1 l).length l.length with h2 | h2
    · exact h2
    · have h3 : rem x.1 l = l := List.Sublist.eq_of_length List.filter_sublist (by omega)
      have := rem_has x.1 l
      rw [h3, h] at this
      cases this
theorem rem_len {l : List It} (h : Ids l) (id : Int) : (rem id l).length + (if hasId id l then 1 else 0) = l.length := by
  induction l with
  | nil => rfl
  | cons x l ih =>
    unfold Ids at h
    rw [List.pairwise_cons] at h
    have := ih h.2
    by_cases e : x.1 = id
    · have hn : hasId id l = false := by
        rw [← Bool.not_eq_true, hasId_iff]
        rintro ⟨y, hy, e'⟩
        exact h.1 y hy (e.trans e'.symm)
      rw [hn] at this
      simp [rem, hasId, e] at this ⊢
      exact this
    · have e1 : rem id (x :: l) = x :: rem id l := by simp [rem, e]
      have e2 : hasId id (x :: l) = hasId id l := by simp [hasId, e]
      rw [e1, e2, List.length_cons, List.length_cons]
      omega
theorem ids_ins {x : It} {l : List It} (h : Ids l) (hx : hasId x.1 l = false) : Ids (ins x l) := by
  have h0 : Ids (x :: l) := List.pairwise_cons.2 ⟨fun y hy e => by
    rw [← Bool.not_eq_true, hasId_iff] at hx
    exact hx ⟨y, hy, e.symm⟩, h⟩
  exact (ins_perm x l).symm.pairwise h0 fun h => Ne.symm h
theorem ids_perm {l m : List It} (h : l.Perm m) (hl : Ids l) : Ids m := h.pairwise hl fun h => Ne.symm h
/-- The reference's Push. -/
def pushL (l : List It) (x : It) : List It := ins x (rem x.1 l)
theorem pushL_len (l : List It) (x : It) : (pushL l x).length = (rem x.1 l).length + 1 := ins_len _ _

/-! ### Heaps -/
def OKp (d : Array It) (k : Nat) : Prop := bef d[k]! d[(k - 1) / 2]! = false
def HeapN (d : Array It) (n : Nat) : Prop := ∀ k, 0 < k → k < n → OKp d k
/-- All is in order but that element j may be before its parent. -/
def UpI (d : Array It) (n j : Nat) : Prop :=
  (∀ k, 0 < k → k < n → k ≠ j → OKp d k) ∧ ∀ k, 0 < k → k < n → (k - 1) / 2 = j → 0 < j → bef d[k]! d[(j - 1) / 2]! = false
/-- All is in order but for the children of i (and, where b is false, i itself). -/
def DnI (d : Array It) (n i : Nat) (b : Bool) : Prop :=
  (∀ k, 0 < k → k < n → (k - 1) / 2 ≠ i → (b = true ∨ k ≠ i) → OKp d k) ∧ ∀ k, 0 < k → k < n → (k - 1) / 2 = i → 0 < i → bef d[k]! d[(i - 1) / 2]! = false
theorem UpI.step {d : Array It} {n i j : Nat} (h : UpI d n j) (hj : 0 < j) (hi : i = (j - 1) / 2) (hn : n ≤ d.size) (hjn : j < n) (hb : bef d[j]! d[i]! = true) : UpI (swp d i j) n i := by
  have hij : i < j := by omega
  have g := swp_get d (i := i) (j := j) (by omega) (by omega)
  refine ⟨fun k h0 hk hki => ?_, fun k h0 hk hp hi0 => ?_⟩
  · unfold OKp
    rw [g k, g ((k - 1) / 2)]
    by_cases e1 : k = j
    · subst e1
      rw [if_pos rfl, if_neg (by omega), if_pos hi.symm]
      exact bef_asymm hb
    · rw [if_neg e1, if_neg hki]
      by_cases e2 : (k - 1) / 2 = j
      · rw [if_pos e2]
        have := h.2 k h0 hk e2 hj
        rwa [← hi] at this
      · rw [if_neg e2]
        by_cases e3 : (k - 1) / 2 = i
        · rw [if_pos e3]
          have := h.1 k h0 hk e1
          unfold OKp at this
          rw [e3] at this
          exact bef_nbef hb this
        · rw [if_neg e3]
          exact h.1 k h0 hk e1
  · have hg : (swp d i j)[(i - 1) / 2]! = d[(i - 1) / 2]! := by rw [g, if_neg (by omega), if_neg (by omega)]
    rw [hg, g k]
    have hi1 : OKp d i := h.1 i hi0 (by omega) (by omega)
    unfold OKp at hi1
    by_cases e1 : k = j
    · rw [if_pos e1]; exact hi1
    · rw [if_neg e1, if_neg (by omega)]
      have := h.1 k h0 hk e1
      unfold OKp at this
      rw [hp] at this
      exact nbef_trans this hi1
theorem UpI.done {d : Array It} {n j : Nat} (h : UpI d n j) (hj : j = 0 ∨ bef d[j]! d[(j - 1) / 2]! = false) : HeapN d n := fun k h0 hk => by
  by_cases e : k = j
  · subst e
    rcases hj with e | hj
    · omega
    · exact hj
  · exact h.1 k h0 hk e
theorem DnI.step {d : Array It} {n i j : Nat} {b : Bool} (h : DnI d n i b) (hj : 0 < j) (hi : (j - 1) / 2 = i) (hn : n ≤ d.size) (hjn : j < n) (hmin : ∀ k, 0 < k → k < n → (k - 1) / 2 = i → bef d[k]! d[j]! = false) (hb : bef d[j]! d[i]! = true) : DnI (swp d i j) n j true := by
  have hij : i < j := by omega
  have g := swp_get d (i := i) (j := j) (by omega) (by omega)
  refine ⟨fun k h0 hk hp _ => ?_, fun k h0 hk hp _ => ?_⟩
  · unfold OKp
    rw [g k, g ((k - 1) / 2), if_neg hp]
    by_cases e1 : k = j
    · subst e1
      rw [if_pos rfl, if_pos hi]
      exact bef_asymm hb
    · rw [if_neg e1]
      by_cases e2 : k = i
      · subst e2
        rw [if_pos rfl, if_neg (by omega)]
        exact h.2 j hj hjn hi h0
      · rw [if_neg e2]
        by_cases e3 : (k - 1) / 2 = i
        · rw [if_pos e3]
          exact hmin k h0 hk e3
        · rw [if_neg e3]
          exact h.1 k h0 hk e3 (.inr e2)
  · rw [g k, g ((j - 1) / 2), hi, if_neg (by omega), if_neg (by omega), if_neg (by omega), if_pos rfl]
    have := h.1 k h0 hk (by omega) (.inr (by omega))
    unfold OKp at this
    rwa [hp] at this
theorem DnI.heap {d : Array It} {n i : Nat} (h : DnI d n i true) (hc : ∀ k, 0 < k → k < n → (k - 1) / 2 = i → bef d[k]! d[i]! = false) : HeapN d n := fun k h0 hk => by
  by_cases e : (k - 1) / 2 = i
  · unfold OKp
    rw [e]
    exact hc k h0 hk e
  · exact h.1 k h0 hk e (.inl rfl)
theorem DnI.up {d : Array It} {n i : Nat} (h : DnI d n i false) (hc : ∀ k, 0 < k → k < n → (k - 1) / 2 = i → bef d[k]! d[i]! = false) : UpI d n i :=
  ⟨fun k h0 hk hne => by
    by_cases e : (k - 1) / 2 = i
    · unfold OKp
      rw [e]
      exact hc k h0 hk e
    · exact h.1 k h0 hk e (.inr hne), h.2⟩
/-- A heap of which one element was changed. -/
theorem DnI.start {d d' : Array It} {n i : Nat} (h : HeapN d n) (hs : ∀ k, k < n → k ≠ i → d'[k]! = d[k]!) (hin : i < n) : DnI d' n i false :=
  ⟨fun k h0 hk hp hne => by
    have hne : k ≠ i := by simpa using hne
    unfold OKp
    rw [hs k hk hne, hs _ (by omega) hp]
    exact h k h0 hk, fun k h0 hk hp hi0 => by
    rw [hs k hk (by omega), hs _ (by omega) (by omega)]
    have h1 := h k h0 hk
    have h2 := h i hi0 hin
    unfold OKp at h1 h2
    rw [hp] at h1
    exact nbef_trans h1 h2⟩
theorem HeapN.mono {d : Array It} {n m : Nat} (h : HeapN d n) (hm : m ≤ n) : HeapN d m := fun k h0 hk => h k h0 (by omega)
theorem HeapN.congr {d d' : Array It} {n : Nat} (h : HeapN d n) (hs : ∀ k, k < n → d'[k]! = d[k]!) : HeapN d' n := fun k h0 hk => by
  unfold OKp
  rw [hs k hk, hs _ (by omega)]
  exact h k h0 hk
theorem HeapN.min {d : Array It} {n : Nat} (h : HeapN d n) (k : Nat) (hk : k < n) : bef d[k]! d[0]! = false := by
  induction k using Nat.strongRecOn with
  | ind k ih =>
    rcases Nat.eq_zero_or_pos k with rfl | h0
    · exact bef_irrefl _
    · exact nbef_trans (h k h0 hk) (ih ((k - 1) / 2) (by omega) (by omega))
/-- A heap to which an element was added at the end. -/
theorem UpI.start {d d' : Array It} {n : Nat} (h : HeapN d n) (hs : ∀ k, k < n → d'[k]! = d[k]!) : UpI d' (n + 1) n :=
  ⟨fun k h0 hk hne => h.congr hs k h0 (by omega), fun k h0 hk hp _ => by omega⟩
end Go.Proofs.Ytjcoghjkjnhljaa
