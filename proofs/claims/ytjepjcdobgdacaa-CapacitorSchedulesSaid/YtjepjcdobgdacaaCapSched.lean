/-
  PLAIN MATHEMATICS FOR LAYER 8 (capacitor): schedules. Nothing of the program stands here.
-/
import Derived.Test.YtjepjcdobgdacaaCapPlain2
namespace Go.Proofs.Ytjepjcdobgdacaa
open Go

/-- A simulation: the capacitor, the energy of the period that has not ended, the ended ones. -/
structure Sm where
  x : Cp
  en : Int
  L : List It
/-- The last period is off for one tick more. -/
def bump (L : List It) : List It := L.set (L.length - 1) ((L.getD (L.length - 1) (0, 0)).1, (L.getD (L.length - 1) (0, 0)).2 + 1)
theorem bump_nil : bump [] = [] := rfl
theorem bump_len (L : List It) : (bump L).length = L.length := by simp [bump]
/-- A tick at the power p. -/
def tk (ld p : Int) (s : Sm) : Sm :=
  if (hv s.x p 1).r then (if (dw (hv s.x p 1) ld).r then ⟨dw (hv s.x p 1) ld, s.en + ld, s.L⟩ else ⟨dw (hv s.x p 1) ld, 0, s.L ++ [(s.en + ld, 0)]⟩)
  else ⟨hv s.x p 1, s.en, bump s.L⟩
def tkN (ld p : Int) : Nat → Sm → Sm
  | 0, s => s
  | k + 1, s => tk ld p (tkN ld p k s)
def run (ld : Int) (l : List It) (s : Sm) : Sm := l.foldl (fun s y => tkN ld y.1 y.2.toNat s) s
theorem run_snoc (ld : Int) (l : List It) (y : It) (s : Sm) : run ld (l ++ [y]) s = tkN ld y.1 y.2.toNat (run ld l s) := by simp [run]
def tn : List It → Nat
  | [] => 0
  | y :: l => y.2.toNat + tn l
def hs : List It → Int
  | [] => 0
  | y :: l => y.1 * y.2 + hs l
def tot : List It → Int
  | [] => 0
  | y :: l => y.2 + tot l
def sumE : List It → Int
  | [] => 0
  | y :: l => y.1 + sumE l
theorem tn_append (l m : List It) : tn (l ++ m) = tn l + tn m := by induction l with | nil => simp [tn] | cons y l ih => simp [tn, ih]; omega
theorem hs_append (l m : List It) : hs (l ++ m) = hs l + hs m := by induction l with | nil => simp [hs] | cons y l ih => simp [hs, ih]; omega
theorem tot_append (l m : List It) : tot (l ++ m) = tot l + tot m := by induction l with | nil => simp [tot] | cons y l ih => simp [tot, ih]; omega
theorem sumE_append (l m : List It) : sumE (l ++ m) = sumE l + sumE m := by induction l with | nil => simp [sumE] | cons y l ih => simp [sumE, ih]; omega
theorem take_snoc {α : Type} {l : List α} {k : Nat} (h : k < l.length) : l.take (k + 1) = l.take k ++ [l[k]] := by
  rw [List.take_add_one, List.getElem?_eq_getElem h]
  rfl
/-- Whether all steps are valid. -/
def okL (l : List It) : Bool := l.all fun y => okP y.1 && okT y.2
theorem okL_iff {l : List It} : okL l = true ↔ ∀ y ∈ l, okP y.1 = true ∧ okT y.2 = true := by simp [okL]
theorem okL_nil : okL [] = true := rfl
theorem okL_snoc (l : List It) (y : It) : okL (l ++ [y]) = (okL l && (okP y.1 && okT y.2)) := by simp [okL]
theorem okL_take {l : List It} (h : okL l = true) (k : Nat) : okL (l.take k) = true := okL_iff.2 fun y hy => okL_iff.1 h y (List.mem_of_mem_take hy)
theorem tot_tn {l : List It} (h : okL l = true) : tot l = (tn l : Int) := by
  induction l with
  | nil => rfl
  | cons y l ih =>
    have h' := okL_iff.1 h
    have h1 := okT_iff.1 (h' y (List.mem_cons_self ..)).2
    have h2 := ih (okL_iff.2 fun z hz => h' z (List.mem_cons_of_mem _ hz))
    simp only [tot, tn, h2]
    omega
theorem tot_nonneg {l : List It} (h : okL l = true) : 0 ≤ tot l := by rw [tot_tn h]; omega
theorem tot_bound {l : List It} (h : okL l = true) : tot l ≤ l.length * 1099511627776 := by
  induction l with
  | nil => simp [tot]
  | cons y l ih =>
    have h' := okL_iff.1 h
    have h1 := okT_iff.1 (h' y (List.mem_cons_self ..)).2
    have h2 := ih (okL_iff.2 fun z hz => h' z (List.mem_cons_of_mem _ hz))
    simp only [tot, List.length_cons]
    omega
theorem tn_take (l : List It) (k : Nat) : tn (l.take k) ≤ tn l := by
  have := tn_append (l.take k) (l.drop k)
  rw [List.take_append_drop] at this
  omega
/-- What a schedule keeps behind n ticks and the harvest H. -/
structure Gd (n : Nat) (ld H : Int) (s : Sm) : Prop where
  inv : Inv s.x
  e0 : 0 ≤ s.en
  e1 : s.en ≤ n * 1048576
  len : s.L.length ≤ n
  off : ∀ y ∈ s.L, 0 ≤ y.2 ∧ y.2 ≤ n
  eb : sumE s.L + s.en + s.x.q ≤ H + ld * s.L.length
  md : ∃ d : Nat, s.en = ld * d
  ml : ∀ y ∈ s.L, ∃ d : Nat, y.1 = ld * (d + 1)
  top : ∀ y ∈ s.L, y.1 ≤ n * 1048576
theorem sumE_set (L : List It) (i : Nat) (a b : Int) (hi : i < L.length) (ha : (L.getD i (0, 0)).1 = a) : sumE (L.set i (a, b)) = sumE L := by
  induction L generalizing i with
  | nil => simp at hi
  | cons y L ih =>
    cases i with
    | zero =>
      have ha : y.1 = a := ha
      simp [sumE, ha]
    | succ i =>
      have := ih i (by simpa using hi) (by simpa using ha)
      simp [sumE, this]
theorem sumE_bump (L : List It) : sumE (bump L) = sumE L := by
  cases L with
  | nil => rfl
  | cons y L => exact sumE_set _ _ _ _ (by simp) rfl
theorem mem_bump {L : List It} {y : It} (h : y ∈ bump L) : ∃ z ∈ L, y.1 = z.1 ∧ (y.2 = z.2 ∨ y.2 = z.2 + 1) := by
  unfold bump at h
  rcases List.mem_or_eq_of_mem_set h with h | h
  · exact ⟨y, h, rfl, .inl rfl⟩
  · cases L with
    | nil => simp at *
    | cons z L =>
      refine ⟨(z :: L).getD ((z :: L).length - 1) (0, 0), ?_, by rw [h], .inr (by rw [h])⟩
      have hl : (z :: L).length - 1 < (z :: L).length := by simp
      rw [List.getD_eq_getElem?_getD, List.getElem?_eq_getElem hl]
      exact List.getElem_mem hl
theorem hv_q {x : Cp} {p : Int} (hp : okP p = true) : (hv x p 1).q ≤ x.q + p := by
  have hk : (okP p && okT 1) = true := by rw [hp]; rfl
  rw [(hv_yes hk).2]
  show hq x p 1 ≤ _
  unfold hq
  omega
theorem Gd.tk {n : Nat} {ld H p : Int} {s : Sm} (h : Gd n ld H s) (hp : okP p = true) (hl : 1 ≤ ld ∧ ld ≤ 1048576) : Gd (n + 1) ld (H + p) (tk ld p s) := by
  obtain ⟨h1, h2, h3, h4, h5, h6, ⟨d, h7⟩, h8, h9⟩ := h
  have hi := h1.hv p 1
  have hqq := hv_q (x := s.x) hp
  have h0 := okP_iff.1 hp
  unfold Proofs.Ytjepjcdobgdacaa.tk
  by_cases hr : (hv s.x p 1).r = true
  · rw [if_pos hr]
    have hk : dok (hv s.x p 1) ld = true := by simp [dok, hr]; omega
    obtain ⟨-, e2⟩ := dw_yes hk
    have hdi := hi.dw ld
    have hdl := dw_c (hv s.x p 1) ld
    have hqd : (dw (hv s.x p 1) ld).q = dq (hv s.x p 1) ld := by rw [e2]
    have hrd : (dw (hv s.x p 1) ld).r = dr (hv s.x p 1) ld := by rw [e2]
    have hi0 := hi.q0
    have hif := hi.f0
    generalize hv s.x p 1 = x1 at hr hi hqq hk e2 hdi hdl hqd hrd hi0 hif
    generalize dw x1 ld = x2 at e2 hdi hdl hqd hrd
    by_cases hr2 : x2.r = true
    · rw [if_pos hr2]
      have hq2 : x2.q = x1.q - ld := by
        rw [hrd] at hr2
        simp only [dr, decide_eq_true_eq] at hr2
        rw [hqd]
        unfold dq at hr2 ⊢
        omega
      refine ⟨hdi, by show 0 ≤ s.en + ld; omega, by show s.en + ld ≤ _; omega, by show s.L.length ≤ _; omega, fun y hy => ⟨(h5 y hy).1, by have := (h5 y hy).2; omega⟩, ?_, ⟨d + 1, ?_⟩, h8, fun y hy => by have := h9 y hy; omega⟩
      · show sumE s.L + (s.en + ld) + x2.q ≤ H + p + ld * s.L.length
        omega
      · show s.en + ld = ld * ((d + 1 : Nat) : Int)
        rw [h7, Int.natCast_add, Int.mul_add]
        simp
    · rw [if_neg hr2]
      have hq2 : x2.q ≤ x1.q := by rw [hqd]; unfold dq; omega
      refine ⟨hdi, Int.le_refl _, by show (0 : Int) ≤ _; omega, by simp; omega, fun y hy => ?_, ?_, ⟨0, by simp⟩, fun y hy => ?_, fun y hy => ?_⟩
      · rcases List.mem_append.1 hy with hy | hy
        · exact ⟨(h5 y hy).1, by have := (h5 y hy).2; omega⟩
        · obtain rfl := List.mem_singleton.1 hy
          exact ⟨Int.le_refl _, by show (0 : Int) ≤ ((n + 1 : Nat) : Int); omega⟩
      · show sumE (s.L ++ [(s.en + ld, 0)]) + 0 + x2.q ≤ H + p + ld * ((s.L ++ [(s.en + ld, 0)]).length : Nat)
        rw [sumE_append, List.length_append, Int.natCast_add, Int.mul_add]
        have e1 : sumE [((s.en + ld, 0) : It)] = s.en + ld := by simp [sumE]
        have e2 : ld * (([((s.en + ld, 0) : It)].length : Nat) : Int) = ld := by simp
        rw [e1, e2]
        omega
      · rcases List.mem_append.1 hy with hy | hy
        · exact h8 y hy
        · obtain rfl := List.mem_singleton.1 hy
          refine ⟨d, ?_⟩
          show s.en + ld = _
          rw [h7, Int.mul_add]
          simp
      · rcases List.mem_append.1 hy with hy | hy
        · have := h9 y hy; omega
        · obtain rfl := List.mem_singleton.1 hy
          show s.en + ld ≤ _
          omega
  · rw [if_neg hr]
    refine ⟨hi, h2, by show s.en ≤ _; omega, by show (bump s.L).length ≤ _; rw [bump_len]; omega, fun y hy => ?_, ?_, ⟨d, h7⟩, fun y hy => ?_, fun y hy => ?_⟩
    · obtain ⟨z, hz, _, hy2⟩ := mem_bump hy
      have := h5 z hz
      omega
    · show sumE (bump s.L) + s.en + (hv s.x p 1).q ≤ H + p + ld * ((bump s.L).length : Nat)
      rw [sumE_bump, bump_len]
      omega
    · obtain ⟨z, hz, hy1, _⟩ := mem_bump hy
      rw [hy1]
      exact h8 z hz
    · obtain ⟨z, hz, hy1, _⟩ := mem_bump hy
      have := h9 z hz
      omega
theorem Gd.tkN {n : Nat} {ld H p : Int} {s : Sm} (h : Gd n ld H s) (hp : okP p = true) (hl : 1 ≤ ld ∧ ld ≤ 1048576) (k : Nat) : Gd (n + k) ld (H + p * k) (tkN ld p k s) := by
  induction k with
  | zero =>
    rw [show H + p * ((0 : Nat) : Int) = H by simp]
    exact h
  | succ k ih =>
    have := ih.tk hp hl
    rw [show H + p * ((k + 1 : Nat) : Int) = H + p * k + p by rw [Int.natCast_add, Int.mul_add]; simp; omega]
    exact this
theorem Gd.run {ld : Int} (hl : 1 ≤ ld ∧ ld ≤ 1048576) : ∀ (l : List It) {n : Nat} {H : Int} {s : Sm}, Gd n ld H s → okL l = true → Gd (n + tn l) ld (H + hs l) (run ld l s)
  | [], n, H, s, h, _ => by
    rw [show H + hs [] = H by simp [hs]]
    exact h
  | y :: l, n, H, s, h, ho => by
    have h' := okL_iff.1 ho
    obtain ⟨hp, ht⟩ := h' y (List.mem_cons_self ..)
    have h1 := h.tkN hp hl y.2.toNat
    have h2 := Gd.run hl l h1 (okL_iff.2 fun z hz => h' z (List.mem_cons_of_mem _ hz))
    have e : ((y.2.toNat : Nat) : Int) = y.2 := by have := okT_iff.1 ht; omega
    rw [e] at h2
    have e2 : n + tn (y :: l) = n + y.2.toNat + tn l := by simp only [tn]; omega
    have e3 : H + hs (y :: l) = H + y.1 * y.2 + hs l := by simp only [hs]; omega
    rw [e2, e3]
    exact h2
def sm0 (c o f : Int) : Sm := ⟨cp0 c o f, 0, []⟩
theorem gd0 {c o f : Int} (ld : Int) (h : okC c o f = true) : Gd 0 ld 0 (sm0 c o f) :=
  ⟨inv0 h, Int.le_refl _, by simp [sm0], by simp [sm0], fun y hy => (by cases hy), by simp [sm0, sumE, cp0], ⟨0, by simp [sm0]⟩, fun y hy => (by cases hy), fun y hy => (by cases hy)⟩
/-- Whether the arguments of a schedule are valid. -/
def okS (c o f ld : Int) (l : List It) : Bool := okC c o f && (decide (1 ≤ ld) && decide (ld ≤ 1048576)) && (decide (l.length ≤ 64) && okL l && decide (tot l ≤ 65536))
end Go.Proofs.Ytjepjcdobgdacaa
