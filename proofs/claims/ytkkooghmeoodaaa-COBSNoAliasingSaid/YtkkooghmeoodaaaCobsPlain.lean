/-
  CONSISTENT OVERHEAD BYTE STUFFING, on lists of bytes: what an encoding is, that it is one-to-one, how long it is, and what a stream's packets are. Nothing of the program stands here.
-/
namespace Go.Proofs.Ytkkooghmeoodaaa

/-! ### Runs -/
/-- The number of nonzero bytes at the head, at most k. -/
def rnN : Nat → List UInt8 → Nat
  | 0, _ => 0
  | _, [] => 0
  | k + 1, x :: xs => if x = 0 then 0 else rnN k xs + 1
def rn (xs : List UInt8) : Nat := rnN 254 xs
/-- No zero byte. -/
def Nz (xs : List UInt8) : Prop := ∀ c ∈ xs, c ≠ 0

theorem rnN_bound (k : Nat) (xs : List UInt8) : rnN k xs ≤ k ∧ rnN k xs ≤ xs.length := by
  induction k generalizing xs with
  | zero => simp [rnN]
  | succ k ih => cases xs with
    | nil => simp [rnN]
    | cons x xs =>
      have := ih xs
      unfold rnN
      split
      · simp
      · simp; omega
theorem rnN_nz (k : Nat) (xs : List UInt8) : Nz (xs.take (rnN k xs)) := by
  induction k generalizing xs with
  | zero => simp [rnN, Nz]
  | succ k ih => cases xs with
    | nil => simp [rnN, Nz]
    | cons x xs =>
      unfold rnN
      split
      · simp [Nz]
      · rename_i h
        intro c hc
        rw [List.take_succ_cons, List.mem_cons] at hc
        rcases hc with rfl | hc
        · exact h
        · exact ih xs c hc
theorem rnN_stop (k : Nat) (xs : List UInt8) (h1 : rnN k xs < k) (h2 : rnN k xs < xs.length) : xs.getD (rnN k xs) 0 = 0 := by
  induction k generalizing xs with
  | zero => omega
  | succ k ih => cases xs with
    | nil => simp
    | cons x xs =>
      by_cases hx : x = 0
      · simp [rnN, hx]
      · have e : rnN (k + 1) (x :: xs) = rnN k xs + 1 := by simp [rnN, hx]
        rw [e] at h1 h2 ⊢
        have := ih xs (by omega) (by simpa using h2)
        simpa using this
theorem rnN_unique (k : Nat) (xs : List UInt8) (n : Nat) (h1 : n ≤ k) (h2 : n ≤ xs.length) (h3 : Nz (xs.take n)) (h4 : n < k → n < xs.length → xs.getD n 0 = 0) : rnN k xs = n := by
  induction k generalizing xs n with
  | zero => simp [rnN]; omega
  | succ k ih => cases xs with
    | nil => simp at h2; simp [rnN, h2]
    | cons x xs =>
      cases n with
      | zero =>
        have := h4 (by omega) (by simp)
        simp at this
        simp [rnN, this]
      | succ n =>
        have hx : x ≠ 0 := h3 x (by simp)
        have e : rnN (k + 1) (x :: xs) = rnN k xs + 1 := by simp [rnN, hx]
        rw [e]
        congr 1
        exact ih xs n (by omega) (by simpa using h2) (fun c hc => h3 c (by simp [hc])) (fun a b => by simpa using h4 (by omega) (by simpa using b))

theorem rn_le (xs : List UInt8) : rn xs ≤ 254 ∧ rn xs ≤ xs.length := rnN_bound 254 xs
theorem rn_nz (xs : List UInt8) : Nz (xs.take (rn xs)) := rnN_nz 254 xs
theorem rn_stop (xs : List UInt8) (h1 : rn xs < 254) (h2 : rn xs < xs.length) : xs.getD (rn xs) 0 = 0 := rnN_stop 254 xs h1 h2
theorem rn_unique (xs : List UInt8) (n : Nat) (h1 : n ≤ 254) (h2 : n ≤ xs.length) (h3 : Nz (xs.take n)) (h4 : n < 254 → n < xs.length → xs.getD n 0 = 0) : rn xs = n := rnN_unique 254 xs n h1 h2 h3 h4
theorem nz_get (xs : List UInt8) (n : Nat) : Nz (xs.take n) ↔ ∀ i, i < n → i < xs.length → xs.getD i 0 ≠ 0 := by
  constructor
  · intro h i h1 h2
    refine h _ ?_
    rw [List.mem_take_iff_getElem]
    exact ⟨i, by omega, by simp [List.getD, h2]⟩
  · intro h c hc
    obtain ⟨i, hi, rfl⟩ := List.mem_take_iff_getElem.1 hc
    have := h i (by omega) (by omega)
    simpa [List.getD, show i < xs.length by omega] using this
theorem nz_append {a b : List UInt8} : Nz (a ++ b) ↔ Nz a ∧ Nz b := by
  constructor
  · intro h; exact ⟨fun c hc => h c (by simp [hc]), fun c hc => h c (by simp [hc])⟩
  · rintro ⟨h1, h2⟩ c hc
    rcases List.mem_append.1 hc with h | h
    · exact h1 c h
    · exact h2 c h

/-! ### Encodings, without their last zero byte -/
/-- y is the groups of x. -/
inductive Enc : List UInt8 → List UInt8 → Prop
  | last (r : List UInt8) : Nz r → r.length ≤ 254 → Enc r (UInt8.ofNat (r.length + 1) :: r)
  | full (r x y : List UInt8) : Nz r → r.length = 254 → x ≠ [] → Enc x y → Enc (r ++ x) (UInt8.ofNat (r.length + 1) :: (r ++ y))
  | part (r x y : List UInt8) : Nz r → r.length < 254 → Enc x y → Enc (r ++ 0 :: x) (UInt8.ofNat (r.length + 1) :: (r ++ y))

theorem code_nat (n : Nat) (h : n ≤ 254) : (UInt8.ofNat (n + 1)).toNat = n + 1 := by simp; omega
theorem code_ne (n : Nat) (h : n ≤ 254) : UInt8.ofNat (n + 1) ≠ 0 := by
  intro e
  have := congrArg UInt8.toNat e
  rw [code_nat n h] at this
  simp at this

/-- How far the next group starts. -/
def stp (n : Nat) : Nat := if n < 254 then n + 1 else n
def enc (xs : List UInt8) : List UInt8 :=
  UInt8.ofNat (rn xs + 1) :: (xs.take (rn xs) ++ (if _h : xs.length = rn xs then [] else enc (xs.drop (stp (rn xs)))))
termination_by xs.length
decreasing_by
  have := rn_le xs
  simp only [List.length_drop, stp]
  split <;> omega
/-- The encoding. -/
def encz (xs : List UInt8) : List UInt8 := enc xs ++ [0]

theorem drop_cons_getD (xs : List UInt8) (n : Nat) (h : n < xs.length) : xs.drop n = xs.getD n 0 :: xs.drop (n + 1) := by
  rw [List.drop_eq_getElem_cons h]
  simp [List.getD, h]
theorem enc_Enc (xs : List UInt8) : Enc xs (enc xs) := by
  generalize hn : xs.length = n
  induction n using Nat.strongRecOn generalizing xs with
  | _ n ih =>
    have hr := rn_le xs
    have hz := rn_nz xs
    have hl : (xs.take (rn xs)).length = rn xs := by simp; omega
    rw [enc]
    by_cases h : xs.length = rn xs
    · rw [dif_pos h, List.append_nil]
      have e : xs.take (rn xs) = xs := by rw [← h, List.take_length]
      have := Enc.last (xs.take (rn xs)) hz (by omega)
      rw [hl] at this
      rw [e] at this ⊢
      exact this
    · rw [dif_neg h]
      by_cases h2 : rn xs < 254
      · have hs : stp (rn xs) = rn xs + 1 := by simp [stp, h2]
        rw [hs]
        have := Enc.part (xs.take (rn xs)) _ _ hz (by omega) (ih _ (by simp only [List.length_drop]; omega) (xs.drop (rn xs + 1)) rfl)
        rw [hl] at this
        have e := drop_cons_getD xs (rn xs) (by omega)
        rw [rn_stop xs h2 (by omega)] at e
        rw [← e, List.take_append_drop] at this
        exact this
      · have hs : stp (rn xs) = rn xs := by simp [stp, h2]
        rw [hs]
        have := Enc.full (xs.take (rn xs)) _ _ hz (by omega) (by intro e; have := congrArg List.length e; simp at this; omega) (ih _ (by simp only [List.length_drop]; omega) (xs.drop (rn xs)) rfl)
        rw [hl, List.take_append_drop] at this
        exact this
theorem Enc.nz {x y : List UInt8} (h : Enc x y) : Nz y := by
  induction h with
  | last r h1 h2 => intro c hc; exact (List.mem_cons.1 hc).elim (fun e => e ▸ code_ne _ h2) (h1 c)
  | full r x y h1 h2 _ _ ih => intro c hc; exact (List.mem_cons.1 hc).elim (fun e => e ▸ code_ne _ (by omega)) (nz_append.2 ⟨h1, ih⟩ c)
  | part r x y h1 h2 _ ih => intro c hc; exact (List.mem_cons.1 hc).elim (fun e => e ▸ code_ne _ (by omega)) (nz_append.2 ⟨h1, ih⟩ c)
theorem Enc.pos {x y : List UInt8} (h : Enc x y) : 0 < y.length := by cases h <;> simp
/-- The greatest length, without the last zero byte. -/
def top (n : Nat) : Nat := n + max 1 ((n + 253) / 254)
theorem Enc.le {x y : List UInt8} (h : Enc x y) : y.length ≤ top x.length := by
  unfold top
  induction h with
  | last r h1 h2 => simp; omega
  | full r x y h1 h2 h3 h4 ih =>
    have : 0 < x.length := List.length_pos_iff.2 h3
    simp only [List.length_append, List.length_cons]
    omega
  | part r x y h1 h2 h3 ih => simp only [List.length_append, List.length_cons]; omega
theorem Enc.eq_of_nz {x y : List UInt8} (h : Enc x y) (hx : Nz x) : y.length = top x.length := by
  unfold top
  induction h with
  | last r h1 h2 => simp; omega
  | full r x y h1 h2 h3 h4 ih =>
    have : 0 < x.length := List.length_pos_iff.2 h3
    have := ih (nz_append.1 hx).2
    simp only [List.length_append, List.length_cons]
    omega
  | part r x y h1 h2 h3 ih => exact absurd rfl (hx 0 (by simp))
theorem Enc.ge {x y : List UInt8} (h : Enc x y) : x.length < y.length + 0 ∨ x.length + 1 ≤ y.length := by
  right
  induction h with
  | last r h1 h2 => simp
  | full r x y h1 h2 h3 h4 ih => simp only [List.length_append, List.length_cons]; omega
  | part r x y h1 h2 h3 ih => simp only [List.length_append, List.length_cons]; omega
theorem rn_run (r t : List UInt8) (h1 : Nz r) (h2 : r.length ≤ 254) (h3 : r.length < 254 → t = [] ∨ ∃ u, t = 0 :: u) : rn (r ++ t) = r.length := by
  refine rn_unique _ _ h2 (by simp) ?_ fun a b => ?_
  · rw [List.take_append_of_le_length (Nat.le_refl _), List.take_length]; exact h1
  · rcases h3 a with rfl | ⟨u, rfl⟩
    · simp at b
    · simp [List.getD]
theorem Enc.eq {x y : List UInt8} (h : Enc x y) : y = enc x := by
  induction h with
  | last r h1 h2 =>
    have e := rn_run r [] h1 h2 (fun _ => .inl rfl)
    rw [List.append_nil] at e
    rw [enc, e, dif_pos rfl, List.take_length, List.append_nil]
  | full r x y h1 h2 h3 h4 ih =>
    have e := rn_run r x h1 (by omega) (fun h => absurd h (by omega))
    have : 0 < x.length := List.length_pos_iff.2 h3
    rw [enc, e, dif_neg (by simp; omega), show stp r.length = r.length by simp [stp, h2], List.drop_left, List.take_left, ← ih]
  | part r x y h1 h2 h3 ih =>
    have e := rn_run r (0 :: x) h1 (by omega) (fun h => .inr ⟨x, rfl⟩)
    rw [enc, e, dif_neg (by simp), show stp r.length = r.length + 1 by simp [stp, h2], List.take_left, ← List.drop_drop, List.drop_left, List.drop_one, List.tail_cons, ← ih]

/-! ### Decoding: a group at a time -/
def Rst (x rest : List UInt8) : Prop := (rest = [] ∧ x = []) ∨ Enc x rest
theorem Enc.not_nil {x : List UInt8} (h : Enc x []) : False := by have := h.pos; simp at this
theorem Rst.nil {x : List UInt8} (h : Rst x []) : x = [] := by
  rcases h with ⟨_, h⟩ | h
  · exact h
  · exact h.not_nil.elim
theorem Rst.cons {x t : List UInt8} {c : UInt8} (h : Rst x (c :: t)) : Enc x (c :: t) := by
  rcases h with ⟨h, _⟩ | h
  · cases h
  · exact h
/-- The bytes gs have been read up to rest, and the data ds have come out: whatever is encoded by gs starts so. -/
def Bwd (gs ds rest : List UInt8) : Prop := ∀ x, Enc x gs → ∃ x', x = ds ++ x' ∧ Rst x' rest
/-- Whatever is encoded by the rest goes on so. -/
def Fwd (gs ds rest : List UInt8) : Prop := ∀ x', Rst x' rest → Enc (ds ++ x') gs
theorem Bwd.start (gs : List UInt8) : Bwd gs [] gs := fun x h => ⟨x, rfl, .inr h⟩
theorem Fwd.start {gs : List UInt8} (h : gs ≠ []) : Fwd gs [] gs := fun x' hr => by
  rcases hr with ⟨e, _⟩ | hr
  · exact absurd e h
  · exact hr
theorem Fwd.done {gs ds : List UInt8} (h : Fwd gs ds []) : Enc ds gs := by simpa using h [] (.inl ⟨rfl, rfl⟩)
theorem Bwd.done {gs ds x : List UInt8} (h : Bwd gs ds []) (hx : Enc x gs) : x = ds := by
  obtain ⟨x', rfl, hr⟩ := h x hx
  rw [hr.nil, List.append_nil]
/-- The head of what is an encoding. -/
theorem Enc.head {x t : List UInt8} {c : UInt8} (h : Enc x (c :: t)) :
    ∃ r u x', t = r ++ u ∧ c.toNat = r.length + 1 ∧ Nz r ∧ r.length ≤ 254 ∧ ((u = [] ∧ x = r) ∨ (Enc x' u ∧ ((r.length = 254 ∧ x' ≠ [] ∧ x = r ++ x') ∨ (r.length < 254 ∧ x = r ++ 0 :: x')))) := by
  generalize hy : c :: t = y at h
  cases h with
  | last r h1 h2 =>
    cases hy
    exact ⟨x, [], [], by simp, code_nat _ h2, h1, h2, .inl ⟨rfl, rfl⟩⟩
  | full r x y h1 h2 h3 h4 =>
    cases hy
    exact ⟨r, y, x, rfl, code_nat _ (by omega), h1, by omega, .inr ⟨h4, .inl ⟨h2, h3, rfl⟩⟩⟩
  | part r x y h1 h2 h4 =>
    cases hy
    exact ⟨r, y, x, rfl, code_nat _ (by omega), h1, by omega, .inr ⟨h4, .inr ⟨h2, rfl⟩⟩⟩
theorem Bwd.code {gs ds t x : List UInt8} {c : UInt8} (h : Bwd gs ds (c :: t)) (hx : Enc x gs) : 0 < c.toNat ∧ c.toNat ≤ t.length + 1 := by
  obtain ⟨x', rfl, hr⟩ := h x hx
  obtain ⟨r, u, x'', rfl, h2, _⟩ := hr.cons.head
  simp; omega
/-- A group is read: no zero byte behind it, or one. -/
theorem Bwd.next {gs ds t ds' : List UInt8} {c : UInt8} (h : Bwd gs ds (c :: t))
    (he : ds' = ds ++ (t.take (c.toNat - 1) ++ if c.toNat < 255 ∧ t.drop (c.toNat - 1) ≠ [] then [0] else [])) : Bwd gs ds' (t.drop (c.toNat - 1)) := by
  intro x hx
  obtain ⟨x', rfl, hr⟩ := h x hx
  obtain ⟨r, u, x'', rfl, h2, h3, h4, h5⟩ := hr.cons.head
  have e1 : c.toNat - 1 = r.length := by omega
  rw [e1, List.drop_left, List.take_left] at he
  rw [e1, List.drop_left]
  rcases h5 with ⟨rfl, rfl⟩ | ⟨h5, h6⟩
  · refine ⟨[], ?_, .inl ⟨rfl, rfl⟩⟩
    rw [he]; simp
  · have hu : u ≠ [] := by rintro rfl; exact h5.not_nil
    refine ⟨x'', ?_, .inr h5⟩
    rw [he]
    rcases h6 with ⟨h7, h8, rfl⟩ | ⟨h7, rfl⟩
    · rw [if_neg (by omega)]; simp
    · rw [if_pos ⟨by omega, hu⟩]; simp
theorem Bwd.odd {gs ds t x : List UInt8} {c : UInt8} (h : Bwd gs ds (c :: t)) (hx : Enc x gs) (hc : c.toNat = 255) (ht : (t.drop (c.toNat - 1)).length = 1) : False := by
  obtain ⟨x', rfl, hr⟩ := h x hx
  obtain ⟨r, u, x'', rfl, h2, h3, h4, h5⟩ := hr.cons.head
  have e1 : c.toNat - 1 = r.length := by omega
  rw [e1, List.drop_left] at ht
  rcases h5 with ⟨rfl, rfl⟩ | ⟨h5, h6⟩
  · simp at ht
  · have := h5.ge
    rcases h6 with ⟨_, h8, _⟩ | ⟨h7, _⟩
    · exact h8 (List.eq_nil_of_length_eq_zero (by omega))
    · omega
theorem Fwd.next {gs ds t ds' : List UInt8} {c : UInt8} (h : Fwd gs ds (c :: t)) (hz : Nz t) (h0 : 0 < c.toNat) (hl : c.toNat ≤ t.length + 1) (hodd : c.toNat = 255 → (t.drop (c.toNat - 1)).length ≠ 1)
    (he : ds' = ds ++ (t.take (c.toNat - 1) ++ if c.toNat < 255 ∧ t.drop (c.toNat - 1) ≠ [] then [0] else [])) : Fwd gs ds' (t.drop (c.toNat - 1)) := by
  intro x' hr
  have hc := c.toNat_lt
  obtain ⟨r, hr0⟩ : ∃ r, r = t.take (c.toNat - 1) := ⟨_, rfl⟩
  obtain ⟨u, hu0⟩ : ∃ u, u = t.drop (c.toNat - 1) := ⟨_, rfl⟩
  have htru : t = r ++ u := by rw [hr0, hu0, List.take_append_drop]
  have hlen : r.length + 1 = c.toNat := by rw [hr0]; simp; omega
  have hcc : c = UInt8.ofNat (r.length + 1) := by rw [hlen]; simp
  rw [← hr0, ← hu0] at he
  rw [← hu0] at hr hodd
  rw [he, List.append_assoc]
  refine h _ (.inr ?_)
  have hzr : Nz r := (nz_append.1 (htru ▸ hz)).1
  rcases hr with ⟨h1, rfl⟩ | hr
  · rw [if_neg (by simp [h1]), List.append_nil, List.append_nil, htru, h1, List.append_nil, hcc]
    exact Enc.last r hzr (by omega)
  · have hu : u ≠ [] := by intro e; rw [e] at hr; exact hr.not_nil
    rw [htru, hcc]
    by_cases hf : c.toNat < 255
    · rw [if_pos ⟨by rw [← hcc]; exact hf, hu⟩, List.append_assoc]
      exact Enc.part r x' u hzr (by omega) hr
    · rw [if_neg (by rw [← hcc]; omega), List.append_nil]
      refine Enc.full r x' u hzr (by omega) ?_ hr
      rintro rfl
      have h7 := hr.le
      have h8 := hr.pos
      simp [top] at h7
      exact hodd (by omega) (by omega)

theorem Enc.inj {x x' y : List UInt8} (h : Enc x y) (h' : Enc x' y) : x = x' := by
  induction h generalizing x' with
  | last r h1 h2 =>
    obtain ⟨r', u, x'', he, hl, h3, h4, h5⟩ := h'.head
    rw [code_nat _ h2] at hl
    have hu : u = [] := List.eq_nil_of_length_eq_zero (by have := congrArg List.length he; simp at this; omega)
    subst hu
    rw [List.append_nil] at he
    rcases h5 with ⟨_, rfl⟩ | ⟨h5, _⟩
    · exact he
    · exact h5.not_nil.elim
  | full r x y h1 h2 h3 h4 ih =>
    obtain ⟨r', u, x'', he, hl, h5, h6, h7⟩ := h'.head
    rw [code_nat _ (by omega)] at hl
    obtain ⟨rfl, rfl⟩ := List.append_inj he (by omega)
    rcases h7 with ⟨rfl, _⟩ | ⟨h7, h8⟩
    · exact h4.not_nil.elim
    · rcases h8 with ⟨_, _, rfl⟩ | ⟨h9, _⟩
      · rw [ih h7]
      · omega
  | part r x y h1 h2 h4 ih =>
    obtain ⟨r', u, x'', he, hl, h5, h6, h7⟩ := h'.head
    rw [code_nat _ (by omega)] at hl
    obtain ⟨rfl, rfl⟩ := List.append_inj he (by omega)
    rcases h7 with ⟨rfl, _⟩ | ⟨h7, h8⟩
    · exact h4.not_nil.elim
    · rcases h8 with ⟨h9, _⟩ | ⟨_, rfl⟩
      · omega
      · rw [ih h7]

/-! ### What Decode returns -/
open Classical in
/-- The data and the error's number. -/
noncomputable def dec (b : List UInt8) : List UInt8 × Nat :=
  if b = [] ∨ b.getD (b.length - 1) 0 ≠ 0 then ([], 3) else if h : ∃ x, Enc x (b.take (b.length - 1)) then (h.choose, 0) else ([], 2)
theorem dec_trunc {b : List UInt8} (h : b = [] ∨ b.getD (b.length - 1) 0 ≠ 0) : dec b = ([], 3) := by unfold dec; rw [if_pos h]
theorem dec_ok {b x : List UInt8} (h : b ≠ []) (h1 : b.getD (b.length - 1) 0 = 0) (h2 : Enc x (b.take (b.length - 1))) : dec b = (x, 0) := by
  unfold dec
  rw [if_neg (fun e => e.elim h (fun k => k h1)), dif_pos ⟨x, h2⟩]
  congr 1
  exact (Exists.choose_spec (⟨x, h2⟩ : ∃ x, Enc x (b.take (b.length - 1)))).inj h2
theorem dec_syn {b : List UInt8} (h : b ≠ []) (h1 : b.getD (b.length - 1) 0 = 0) (h2 : ∀ x, ¬ Enc x (b.take (b.length - 1))) : dec b = ([], 2) := by
  unfold dec
  rw [if_neg (fun e => e.elim h (fun k => k h1)), dif_neg (by rintro ⟨x, hx⟩; exact h2 x hx)]
theorem dec_enc {x y : List UInt8} (h : Enc x y) : dec (y ++ [0]) = (x, 0) := by
  refine dec_ok (by simp) (by simp [List.getD]) ?_
  simp
  exact h
theorem dec_encz (x : List UInt8) : dec (encz x) = (x, 0) := dec_enc (enc_Enc x)
/-- What encodes back. -/
theorem dec_by {b ds : List UInt8} (h : b ≠ []) (h1 : b.getD (b.length - 1) 0 = 0) (h2 : Bwd (b.take (b.length - 1)) ds []) : dec b = if encz ds = b then (ds, 0) else ([], 2) := by
  split
  · rename_i e
    rw [← e]
    exact dec_encz ds
  · rename_i e
    refine dec_syn h h1 fun x hx => e ?_
    obtain rfl := h2.done hx
    unfold encz
    rw [← hx.eq]
    have hp : 0 < b.length := List.length_pos_iff.2 h
    have hd : b.drop (b.length - 1) = [0] := by
      rw [drop_cons_getD b (b.length - 1) (by omega), h1, show b.length - 1 + 1 = b.length by omega, List.drop_length]
    rw [← hd, List.take_append_drop]
theorem dec_le (b : List UInt8) : (dec b).1.length ≤ b.length := by
  unfold dec
  split
  · simp
  · split
    · rename_i h
      have := h.choose_spec.ge
      simp at this ⊢
      omega
    · simp
theorem dec_ok' {b : List UInt8} (h : (dec b).2 = 0) : b = encz (dec b).1 := by
  unfold dec at h ⊢
  split at h
  · simp at h
  · split at h
    · rename_i h1 h2
      rw [if_neg h1, dif_pos h2]
      have hp : 0 < b.length := List.length_pos_iff.2 (fun e => h1 (.inl e))
      have h3 : b.getD (b.length - 1) 0 = 0 := by false_or_by_contra; rename_i e; exact h1 (.inr e)
      unfold encz
      rw [← h2.choose_spec.eq]
      have hd : b.drop (b.length - 1) = [0] := by
        rw [drop_cons_getD b (b.length - 1) (by omega), h3, show b.length - 1 + 1 = b.length by omega, List.drop_length]
      rw [← hd, List.take_append_drop]
    · simp at h

/-! ### A stream's packets -/
structure St where
  cand : List UInt8
  out : List (List UInt8)
  skip : Nat
open Classical in
/-- One byte of a stream. -/
noncomputable def stB (most : Nat) (s : St) (c : UInt8) : St :=
  if c ≠ 0 then ⟨s.cand ++ [c], s.out, s.skip⟩
  else if s.cand = [] then ⟨[], s.out, s.skip⟩
  else if (dec (s.cand ++ [0])).2 = 0 ∧ (dec (s.cand ++ [0])).1.length ≤ most then ⟨[], s.out ++ [(dec (s.cand ++ [0])).1], s.skip⟩
  else ⟨[], s.out, s.skip + 1⟩
noncomputable def stL (most : Nat) (s : St) (b : List UInt8) : St := b.foldl (stB most) s
theorem stL_append (most : Nat) (s : St) (a b : List UInt8) : stL most s (a ++ b) = stL most (stL most s a) b := List.foldl_append
theorem stL_nz (most : Nat) (s : St) (a : List UInt8) (h : Nz a) : stL most s a = ⟨s.cand ++ a, s.out, s.skip⟩ := by
  induction a generalizing s with
  | nil => simp [stL]
  | cons c a ih =>
    have e : stL most s (c :: a) = stL most (stB most s c) a := rfl
    rw [e, ih _ (fun d hd => h d (by simp [hd]))]
    have : stB most s c = ⟨s.cand ++ [c], s.out, s.skip⟩ := by unfold stB; rw [if_pos (h c (by simp))]
    rw [this]; simp
theorem stL_zero (most : Nat) (s : St) : stL most s [0] = stB most s 0 := rfl
theorem stL_encz (most : Nat) (s : St) (p : List UInt8) (hs : s.cand = []) (hp : p.length ≤ most) : stL most s (encz p) = ⟨[], s.out ++ [p], s.skip⟩ := by
  have hE := enc_Enc p
  rw [encz, stL_append, stL_nz most s _ hE.nz, stL_zero, hs, List.nil_append]
  have h0 : enc p ≠ [] := by intro e; rw [e] at hE; exact hE.not_nil
  unfold stB
  simp only [ne_eq, not_true_eq_false, if_false]
  rw [if_neg h0, dec_enc hE, if_pos ⟨rfl, hp⟩]
/-- A candidate that is too long is skipped, and so is what is left of it. -/
theorem cut_skip (most : Nat) (cand : List UInt8) (h : top most < cand.length) : ¬ ((dec (cand ++ [0])).2 = 0 ∧ (dec (cand ++ [0])).1.length ≤ most) := by
  rintro ⟨h1, h2⟩
  have h3 := dec_ok' h1
  have h4 := (enc_Enc (dec (cand ++ [0])).1).le
  unfold encz at h3
  have h5 := congrArg List.length h3
  simp at h5
  unfold top at h4 h
  omega
end Go.Proofs.Ytkkooghmeoodaaa
