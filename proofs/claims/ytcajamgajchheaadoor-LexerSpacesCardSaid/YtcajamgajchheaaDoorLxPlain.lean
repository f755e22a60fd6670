/-
  THE PLAIN LEXER OF LAYER 15: white space and comments (sk), how long the first token is (fl), its kind and value (kd, vl), the tokens of a text (scn, txs), and the joined text (jn). Nothing of the program stands here.
-/
import Derived.Test.YtcajamgajchheaaDoorNum
namespace Go.Proofs.YtcajamgajchheaaDoor
open Go

def ws (b : UInt8) : Bool := [32, 9, 10, 13].contains b
def ltr (b : UInt8) : Bool := (decide (97 ≤ b.toNat) && decide (b.toNat ≤ 122)) || ((decide (65 ≤ b.toNat) && decide (b.toNat ≤ 90)) || decide (b.toNat = 95))
def dig (b : UInt8) : Bool := decide (48 ≤ b.toNat) && decide (b.toNat ≤ 57)
def wd (b : UInt8) : Bool := ltr b || dig b
/-- What is left behind white space and comments; c: inside a comment. -/
def sk : Bool → List UInt8 → List UInt8
  | _, [] => []
  | true, b :: r => if b == 10 then sk false r else sk true r
  | false, b :: r => if ws b then sk false r else if b == 47 && r.head? == some 47 then sk true r else b :: r
def mk2 (a b : UInt8) : Bool := (b == 61 && (a == 33 || a == 60 || a == 61 || a == 62)) || (a == 38 && b == 38) || (a == 124 && b == 124)
def mk1 (a : UInt8) : Bool := [33, 37, 40, 41, 42, 43, 44, 45, 47, 59, 60, 61, 62, 91, 93, 123, 125].contains a
/-- The length of the longest punctuation mark at the start, or 0. -/
def mkl : List UInt8 → Nat
  | [] => 0
  | [a] => if mk1 a then 1 else 0
  | a :: b :: _ => if mk2 a b then 2 else if mk1 a then 1 else 0
/-- The length of the first token of a text that begins with one. -/
def fl : List UInt8 → Nat
  | [] => 0
  | a :: r => if ltr a then 1 + (r.takeWhile wd).length else if dig a then 1 + (r.takeWhile dig).length else max 1 (mkl (a :: r))
def ft (xs : List UInt8) : List UInt8 := xs.take (fl xs)

theorem sk_le (xs : List UInt8) : ∀ c, (sk c xs).length ≤ xs.length := by
  induction xs with
  | nil => intro c; cases c <;> simp [sk]
  | cons b r ih =>
    intro c
    cases c <;> simp only [sk]
    · split
      · have := ih false; simp; omega
      · split
        · have := ih true; simp; omega
        · simp
    · split
      · have := ih false; simp; omega
      · have := ih true; simp; omega
theorem sk_suffix (xs : List UInt8) : ∀ c, ∃ p, xs = p ++ sk c xs := by
  induction xs with
  | nil => intro c; cases c <;> exact ⟨[], by simp [sk]⟩
  | cons b r ih =>
    intro c
    cases c <;> simp only [sk]
    · split
      · obtain ⟨p, hp⟩ := ih false; exact ⟨b :: p, by rw [List.cons_append, ← hp]⟩
      · split
        · obtain ⟨p, hp⟩ := ih true; exact ⟨b :: p, by rw [List.cons_append, ← hp]⟩
        · exact ⟨[], rfl⟩
    · split
      · obtain ⟨p, hp⟩ := ih false; exact ⟨b :: p, by rw [List.cons_append, ← hp]⟩
      · obtain ⟨p, hp⟩ := ih true; exact ⟨b :: p, by rw [List.cons_append, ← hp]⟩
theorem sk_drop (xs : List UInt8) (c : Bool) : sk c xs = xs.drop (xs.length - (sk c xs).length) := by
  obtain ⟨p, hp⟩ := sk_suffix xs c
  have h1 : xs.length - (sk c xs).length = p.length := by have := congrArg List.length hp; rw [List.length_append] at this; omega
  rw [h1]
  exact (by rw [← hp] : (p ++ sk c xs).drop p.length = xs.drop p.length) ▸ (List.drop_left (l₁ := p) (l₂ := sk c xs)).symm
theorem sk_idem (xs : List UInt8) : ∀ c, sk false (sk c xs) = sk c xs := by
  induction xs with
  | nil => intro c; cases c <;> rfl
  | cons b r ih =>
    intro c
    cases c <;> simp only [sk]
    · split
      · exact ih false
      · split
        · exact ih true
        · rename_i h1 h2
          simp only [sk]
          rw [if_neg h1, if_neg h2]
    · split
      · exact ih false
      · exact ih true
theorem sk_ws (xs : List UInt8) : sk false (xs.dropWhile ws) = sk false xs := by
  induction xs with
  | nil => rfl
  | cons b r ih =>
    rw [List.dropWhile_cons]
    split
    · rename_i h
      rw [ih]
      simp only [sk, h, if_true]
    · rfl
theorem sk_com (xs : List UInt8) : sk true xs = sk false (xs.dropWhile (fun b => b != 10)) := by
  induction xs with
  | nil => rfl
  | cons b r ih =>
    rw [List.dropWhile_cons]
    by_cases h : b = 10
    · subst h
      rfl
    · have h1 : (b == 10) = false := by simp [h]
      rw [if_pos (by simp [h])]
      simp only [sk, h1]
      exact ih
theorem sk_lf (xs : List UInt8) : sk true (10 :: xs) = sk false (10 :: xs) := rfl
/-- A text that begins with what is not skipped. -/
theorem sk_fix {b : UInt8} {r : List UInt8} : sk false (b :: r) = b :: r ↔ ws b = false ∧ (b == 47 && r.head? == some 47) = false := by
  constructor
  · intro h
    have hl := congrArg List.length h
    simp only [sk] at hl
    split at hl
    · have := sk_le r false
      rw [List.length_cons] at hl
      omega
    · split at hl
      · have := sk_le r true
        rw [List.length_cons] at hl
        omega
      · rename_i h1 h2
        exact ⟨by simpa using h1, by simpa using h2⟩
  · rintro ⟨h1, h2⟩
    simp only [sk, h1, h2]
    rfl
theorem sk_lf_app (xs zs : List UInt8) : ∀ c, sk c (xs ++ 10 :: zs) = if sk c xs = [] then sk false zs else sk c xs ++ 10 :: zs := by
  induction xs with
  | nil => intro c; cases c <;> simp [sk, ws]
  | cons b r ih =>
    intro c
    cases c
    · rw [List.cons_append]
      simp only [sk]
      have hh : (b == 47 && (r ++ 10 :: zs).head? == some 47) = (b == 47 && r.head? == some 47) := by
        cases r <;> simp
      rw [hh]
      split
      · exact ih false
      · split
        · exact ih true
        · simp
    · rw [List.cons_append]
      simp only [sk]
      split
      · exact ih false
      · exact ih true
theorem sk_app2 {xs : List UInt8} (h : sk false xs = xs) (hl : 2 ≤ xs.length) (zs : List UInt8) : sk false (xs ++ zs) = xs ++ zs := by
  match xs, hl with
  | a :: b :: r, _ =>
    have h1 := sk_fix.1 h
    exact sk_fix.2 ⟨h1.1, by simpa using h1.2⟩
theorem sk_app1 {xs : List UInt8} (h : sk false xs = xs) (hn : xs ≠ []) (zs : List UInt8) : sk false (xs ++ 32 :: zs) = xs ++ 32 :: zs := by
  match xs, hn with
  | a :: r, _ =>
    have h1 := sk_fix.1 h
    refine sk_fix.2 ⟨h1.1, ?_⟩
    rw [← h1.2]
    cases r <;> simp
theorem sk_pre (p : List UInt8) : ∀ c y, sk c (p ++ y) = y → sk c p = [] := by
  induction p with
  | nil => intro c y _; cases c <;> rfl
  | cons b r ih =>
    intro c y h
    cases c
    · rw [List.cons_append] at h
      simp only [sk] at h ⊢
      by_cases h1 : ws b = true
      · rw [if_pos h1] at h ⊢
        exact ih false y h
      · rw [if_neg h1] at h ⊢
        by_cases h2 : (b == 47 && (r ++ y).head? == some 47) = true
        · rw [if_pos h2] at h
          cases r with
          | nil =>
            cases y with
            | nil => simp at h2
            | cons c' y' =>
              have h3 : c' = 47 := by have h9 := (Bool.and_eq_true_iff.1 h2).2; simpa using h9
              subst h3
              have h4 := congrArg List.length h
              have h5 := sk_le y' true
              rw [List.nil_append, show sk true (47 :: y') = sk true y' from rfl, List.length_cons] at h4
              omega
          | cons c' r' =>
            rw [if_pos (by simpa using h2)]
            exact ih true y h
        · rw [if_neg h2] at h
          have h4 := congrArg List.length h
          simp at h4
          omega
    · rw [List.cons_append] at h
      simp only [sk] at h ⊢
      by_cases h1 : (b == 10) = true
      · rw [if_pos h1] at h ⊢
        exact ih false y h
      · rw [if_neg h1] at h ⊢
        exact ih true y h

theorem mkl_le (xs : List UInt8) : mkl xs ≤ xs.length ∧ mkl xs ≤ 2 := by
  match xs with
  | [] => simp [mkl]
  | [a] => simp only [mkl]; split <;> simp
  | a :: b :: r => simp only [mkl]; split <;> (try split) <;> simp <;> omega
theorem fl_pos {xs : List UInt8} (h : xs ≠ []) : 1 ≤ fl xs := by
  match xs, h with
  | a :: r, _ => simp only [fl]; split <;> (try split) <;> omega
theorem tw_le (p : UInt8 → Bool) (r : List UInt8) : (r.takeWhile p).length ≤ r.length := by
  induction r with
  | nil => simp
  | cons a r ih => rw [List.takeWhile_cons]; split <;> simp; exact ih
theorem fl_le (xs : List UInt8) : fl xs ≤ xs.length := by
  match xs with
  | [] => simp [fl]
  | a :: r =>
    have h1 := tw_le wd r
    have h2 := tw_le dig r
    have h3 := (mkl_le (a :: r)).1
    simp only [fl, List.length_cons] at *
    split <;> (try split) <;> omega
theorem ft_len (xs : List UInt8) : (ft xs).length = fl xs := by
  rw [ft, List.length_take, Nat.min_eq_left (fl_le xs)]
theorem tw_app {p : UInt8 → Bool} {r : List UInt8} (h : (r.takeWhile p).length < r.length) (zs : List UInt8) : (r ++ zs).takeWhile p = r.takeWhile p := by
  induction r with
  | nil => simp at h
  | cons a r ih =>
    rw [List.takeWhile_cons] at h
    rw [List.cons_append, List.takeWhile_cons, List.takeWhile_cons]
    split at h
    · rename_i ha
      rw [if_pos ha, if_pos ha, ih (by simpa using h)]
    · rename_i ha
      rw [if_neg ha, if_neg ha]
theorem tw_sep {p : UInt8 → Bool} {c : UInt8} (hc : p c = false) (r zs : List UInt8) : (r ++ c :: zs).takeWhile p = r.takeWhile p := by
  induction r with
  | nil => simp [hc]
  | cons a r ih => rw [List.cons_append, List.takeWhile_cons, List.takeWhile_cons, ih]
theorem tw_tw (p : UInt8 → Bool) (r : List UInt8) : (r.take (r.takeWhile p).length).takeWhile p = r.takeWhile p ∧ r.take (r.takeWhile p).length = r.takeWhile p := by
  induction r with
  | nil => simp
  | cons a r ih =>
    by_cases ha : p a = true
    · have h1 := ih.1
      rw [ih.2] at h1
      simp [ha, ih.2, h1]
    · simp [ha]
theorem fl_app {xs : List UInt8} (h : fl xs < xs.length) (zs : List UInt8) : fl (xs ++ zs) = fl xs := by
  match xs, h with
  | a :: r, h =>
    rw [List.cons_append]
    simp only [fl, List.length_cons] at h ⊢
    by_cases h1 : ltr a = true
    · rw [if_pos h1] at h
      rw [if_pos h1, if_pos h1, tw_app (by omega)]
    · rw [if_neg h1] at h
      rw [if_neg h1, if_neg h1]
      by_cases h2 : dig a = true
      · rw [if_pos h2] at h
        rw [if_pos h2, if_pos h2, tw_app (by omega)]
      · rw [if_neg h2] at h
        rw [if_neg h2, if_neg h2]
        cases r with
        | nil => simp at h
        | cons b r => rfl
theorem mk2_sep {a c : UInt8} (hc : c = 10 ∨ c = 32) : mk2 a c = false := by
  rcases hc with rfl | rfl <;> simp [mk2]
theorem fl_sep {xs : List UInt8} (hn : xs ≠ []) {c : UInt8} (hc : c = 10 ∨ c = 32) (zs : List UInt8) : fl (xs ++ c :: zs) = fl xs := by
  have hw : wd c = false := by rcases hc with rfl | rfl <;> decide
  have hd : dig c = false := by rcases hc with rfl | rfl <;> decide
  match xs, hn with
  | a :: r, _ =>
    rw [List.cons_append]
    simp only [fl]
    rw [tw_sep hw, tw_sep hd]
    have : mkl (a :: (r ++ c :: zs)) = mkl (a :: r) := by
      cases r with
      | nil => simp [mkl, mk2_sep hc]
      | cons b r => rfl
    rw [this]
theorem fl_ft (xs : List UInt8) : fl (ft xs) = fl xs := by
  match xs with
  | [] => rfl
  | a :: r =>
    by_cases h1 : ltr a = true
    · have h : fl (a :: r) = 1 + (r.takeWhile wd).length := by simp only [fl]; rw [if_pos h1]
      have h' : ft (a :: r) = a :: r.take (r.takeWhile wd).length := by rw [ft, h, Nat.add_comm 1, List.take_succ_cons]
      rw [h', h]
      simp only [fl]
      rw [if_pos h1, (tw_tw wd r).1]
    · by_cases h2 : dig a = true
      · have h : fl (a :: r) = 1 + (r.takeWhile dig).length := by simp only [fl]; rw [if_neg h1, if_pos h2]
        have h' : ft (a :: r) = a :: r.take (r.takeWhile dig).length := by rw [ft, h, Nat.add_comm 1, List.take_succ_cons]
        rw [h', h]
        simp only [fl]
        rw [if_neg h1, if_pos h2, (tw_tw dig r).1]
      · have h : ∀ r, fl (a :: r) = max 1 (mkl (a :: r)) := fun r => by simp only [fl]; rw [if_neg h1, if_neg h2]
        have h3 := (mkl_le (a :: r)).2
        rw [ft]
        rw [h r]
        match r with
        | [] =>
          have : max 1 (mkl [a]) = 1 := by simp only [mkl]; split <;> rfl
          rw [this, List.take_succ_cons, List.take_zero, h, this]
        | b :: r =>
          by_cases h4 : mk2 a b = true
          · have : ∀ r, mkl (a :: b :: r) = 2 := fun r => by simp only [mkl]; rw [if_pos h4]
            rw [this, show max 1 2 = 2 from rfl, List.take_succ_cons, List.take_succ_cons, List.take_zero, h, this]
            rfl
          · have : max 1 (mkl (a :: b :: r)) = 1 := by simp only [mkl]; rw [if_neg h4]; split <;> rfl
            rw [this, List.take_succ_cons, List.take_zero, h]
            simp only [mkl]
            split <;> rfl
theorem ft_ft (xs : List UInt8) : ft (ft xs) = ft xs := by
  rw [ft, fl_ft]
  exact List.take_of_length_le (by rw [ft_len]; exact Nat.le_refl _)
theorem ft_ne {xs : List UInt8} (h : xs ≠ []) : ft xs ≠ [] := fun h0 => by
  have h1 := ft_len xs
  have h2 := fl_pos h
  rw [h0] at h1
  simp at h1
  omega
theorem sk_ft {xs : List UInt8} (h : sk false xs = xs) : sk false (ft xs) = ft xs := by
  match xs, h with
  | [], _ => rfl
  | a :: r, h =>
    have h1 := sk_fix.1 h
    obtain ⟨k, hk⟩ : ∃ k, fl (a :: r) = k + 1 := ⟨fl (a :: r) - 1, by have := fl_pos (xs := a :: r) (by simp); omega⟩
    rw [ft, hk, List.take_succ_cons]
    refine sk_fix.2 ⟨h1.1, ?_⟩
    have h2 := h1.2
    cases r with
    | nil => simp
    | cons b r =>
      cases k with
      | zero => simp
      | succ k => simpa using h2
/-! ## The tokens of a text, as texts -/
def txF : Nat → List UInt8 → List (List UInt8)
  | 0, _ => []
  | n + 1, xs => if sk false xs = [] then [] else ft (sk false xs) :: txF n ((sk false xs).drop (fl (sk false xs)))
def txs (xs : List UInt8) : List (List UInt8) := txF (xs.length + 1) xs
theorem rest_lt {xs : List UInt8} (h : sk false xs ≠ []) : ((sk false xs).drop (fl (sk false xs))).length < xs.length := by
  have h1 := sk_le xs false
  have h2 := fl_pos h
  have h3 : 0 < (sk false xs).length := List.length_pos_iff.2 h
  rw [List.length_drop]
  omega
theorem txF_fuel : ∀ n m xs, xs.length < n → xs.length < m → txF n xs = txF m xs
  | 0, _, _, h, _ => absurd h (Nat.not_lt_zero _)
  | _ + 1, 0, _, _, h => absurd h (Nat.not_lt_zero _)
  | n + 1, m + 1, xs, h1, h2 => by
    simp only [txF]
    split
    · rfl
    · rename_i h
      have := rest_lt h
      rw [txF_fuel n m _ (by omega) (by omega)]
theorem txs_eq (xs : List UInt8) : txs xs = if sk false xs = [] then [] else ft (sk false xs) :: txs ((sk false xs).drop (fl (sk false xs))) := by
  rw [txs, txF]
  split
  · rfl
  · rename_i h
    have := rest_lt h
    rw [txs, txF_fuel xs.length (((sk false xs).drop (fl (sk false xs))).length + 1) _ this (Nat.lt_succ_self _)]
theorem txs_sk (xs : List UInt8) (c : Bool) : txs (sk c xs) = if sk c xs = [] then [] else ft (sk c xs) :: txs ((sk c xs).drop (fl (sk c xs))) := by
  rw [txs_eq, sk_idem]
theorem txs_skip (xs : List UInt8) : txs (sk false xs) = txs xs := by rw [txs_sk, ← txs_eq]
/-- A good text: it is the text of a token. -/
structure Gd (t : List UInt8) : Prop where
  ne : t ≠ []
  fix : sk false t = t
  full : fl t = t.length
theorem Gd.of {xs : List UInt8} (h : xs ≠ []) (hs : sk false xs = xs) : Gd (ft xs) := ⟨ft_ne h, sk_ft hs, by rw [fl_ft, ft_len]⟩
theorem txs_good : ∀ n xs, xs.length < n → ∀ t ∈ txs xs, Gd t
  | 0, _, h => absurd h (Nat.not_lt_zero _)
  | n + 1, xs, h => by
    intro t ht
    rw [txs_eq] at ht
    split at ht
    · simp at ht
    · rename_i hne
      rcases List.mem_cons.1 ht with rfl | ht
      · exact Gd.of hne (sk_idem _ _)
      · have := rest_lt hne
        exact txs_good n _ (by omega) t ht
/-- Two texts with nothing between them are scanned as two tokens with these texts. -/
def sep (a b : List UInt8) : Bool := (sk false (a ++ b) == a ++ b && ft (a ++ b) == a) && (sk false b == b && ft b == b)
def jn : List UInt8 → List (List UInt8) → List UInt8
  | _, [] => []
  | last, t :: ts => if t = [] then jn last ts else (if last ≠ [] ∧ sep last t = false then [32] else []) ++ (t ++ jn t ts)
theorem txs_one {t : List UInt8} (h : Gd t) {zs : List UInt8} (hs : sk false (t ++ zs) = t ++ zs) (hf : fl (t ++ zs) = t.length) : txs (t ++ zs) = t :: txs zs := by
  rw [txs_eq, hs, if_neg (by simp [h.ne]), ft, hf]
  simp
theorem txs_nil : txs [] = [] := rfl
theorem txs_sp (zs : List UInt8) : txs (32 :: zs) = txs zs := by
  rw [txs_eq, show sk false (32 :: zs) = sk false zs from rfl, ← txs_eq]
theorem rescan : ∀ (ts : List (List UInt8)) (t : List UInt8), Gd t → (∀ u ∈ ts, Gd u) → txs (t ++ jn t ts) = t :: ts
  | [], t, h, _ => by
    rw [jn, txs_one h (by rw [List.append_nil, h.fix]) (by rw [List.append_nil, h.full]), txs_nil]
  | u :: ts, t, h, hu => by
    have hu1 := hu u (List.mem_cons_self ..)
    have ih := rescan ts u hu1 (fun x hx => hu x (List.mem_cons_of_mem _ hx))
    rw [jn, if_neg hu1.ne]
    cases hs : sep t u with
    | true =>
      rw [if_neg (by simp)]
      simp only [sep, Bool.and_eq_true, beq_iff_eq] at hs
      have hl : 0 < u.length := List.length_pos_iff.2 hu1.ne
      have hl' : 0 < t.length := List.length_pos_iff.2 h.ne
      have h1 := sk_app2 hs.1.1 (by rw [List.length_append]; omega) (jn u ts)
      have h3 : fl (t ++ u) = t.length := by rw [← ft_len, hs.1.2]
      have h2 := fl_app (xs := t ++ u) (by rw [h3, List.length_append]; omega) (jn u ts)
      rw [List.append_assoc] at h1 h2
      rw [List.nil_append, txs_one h h1 (h2.trans h3), ih]
    | false =>
      rw [if_pos ⟨h.ne, rfl⟩]
      rw [List.singleton_append, txs_one h (sk_app1 h.fix h.ne _) (by rw [fl_sep h.ne (.inr rfl), h.full]), txs_sp, ih]
theorem rescan_all (xs : List UInt8) : txs (jn [] (txs xs)) = txs xs := by
  have hg := txs_good _ xs (Nat.lt_succ_self _)
  cases h : txs xs with
  | nil => rfl
  | cons t ts =>
    rw [h] at hg
    have ht := hg t (List.mem_cons_self ..)
    rw [jn, if_neg ht.ne, if_neg (by simp), List.nil_append]
    exact rescan ts t ht (fun x hx => hg x (List.mem_cons_of_mem _ hx))
theorem txs_lf : ∀ n (a b : List UInt8), a.length < n → txs (a ++ 10 :: b) = txs a ++ txs b
  | 0, _, _, h => absurd h (Nat.not_lt_zero _)
  | n + 1, a, b, h => by
    rw [txs_eq, sk_lf_app, txs_eq a]
    by_cases hy : sk false a = []
    · rw [if_pos hy, if_pos hy, List.nil_append, ← txs_eq]
    · rw [if_neg hy, if_neg hy, if_neg (by simp), List.cons_append]
      have h1 := rest_lt hy
      have h2 := fl_le (sk false a)
      rw [ft, fl_sep hy (.inl rfl), List.take_append_of_le_length h2, List.drop_append_of_le_length h2, txs_lf n _ b (by omega)]
      rfl
/-- What the specification asks of two texts, and what the program tries. -/
theorem sep_iff {a b : List UInt8} (ha : a ≠ []) (hb : b ≠ []) : sep a b = true ↔ txs (a ++ b) = [a, b] := by
  have hl : 0 < b.length := List.length_pos_iff.2 hb
  have hl' : 0 < a.length := List.length_pos_iff.2 ha
  constructor
  · intro hs
    simp only [sep, Bool.and_eq_true, beq_iff_eq] at hs
    have h3 : fl (a ++ b) = a.length := by rw [← ft_len, hs.1.2]
    have h4 : fl b = b.length := by rw [← ft_len, hs.2.2]
    rw [txs_eq, hs.1.1, if_neg (by simp [ha]), hs.1.2, h3, List.drop_left, txs_eq, hs.2.1, if_neg hb, hs.2.2, h4, List.drop_length, txs_nil]
  · intro h
    rw [txs_eq] at h
    split at h
    · cases h
    · rename_i hne
      obtain ⟨h1, h2⟩ := List.cons.inj h
      rw [txs_eq] at h2
      split at h2
      · cases h2
      · rename_i hne2
        obtain ⟨h3, h4⟩ := List.cons.inj h2
        have l1 := sk_le (a ++ b) false
        have l2 := sk_le ((sk false (a ++ b)).drop (fl (sk false (a ++ b)))) false
        have e1 : fl (sk false (a ++ b)) = a.length := by rw [← ft_len, h1]
        rw [e1] at h3 l2
        have e2 : fl (sk false ((sk false (a ++ b)).drop a.length)) = b.length := by rw [← ft_len, h3]
        have l3 := fl_le (sk false ((sk false (a ++ b)).drop a.length))
        rw [List.length_drop] at l2
        rw [List.length_append] at l1
        have k1 : sk false (a ++ b) = a ++ b := by
          have := sk_drop (a ++ b) false
          rw [List.length_append, show a.length + b.length - (sk false (a ++ b)).length = 0 by omega, List.drop_zero] at this
          exact this
        rw [k1, List.drop_left] at h3 l3 e2
        have k2 : sk false b = b := by
          have := sk_drop b false
          rw [show b.length - (sk false b).length = 0 by omega, List.drop_zero] at this
          exact this
        rw [k1] at h1
        rw [k2] at h3
        simp [sep, k1, k2, h1, h3]
end Go.Proofs.YtcajamgajchheaaDoor
