/-
  LAYER 15 (lexer): first.
-/
import Derived.Test.YtcajamgajchheaaDoorLxSkip
namespace Go.Proofs.YtcajamgajchheaaDoor
open Go Go.RowKit Go.IntWalk
set_option linter.unusedSimpArgs false
set_option linter.unusedVariables false
set_option maxRecDepth 8000

theorem ft_word {xs : List UInt8} (h : hd ltr xs = true) : ft xs = xs.takeWhile wd := by
  cases xs with
  | nil => cases h
  | cons a r =>
    have ha : ltr a = true := h
    rw [ft, fl, if_pos ha, List.takeWhile_cons, if_pos (by simp [wd, ha]), Nat.add_comm 1, List.take_succ_cons, (tw_tw wd r).2]
theorem ft_num {xs : List UInt8} (h0 : hd ltr xs = false) (h : hd dig xs = true) : ft xs = xs.takeWhile dig := by
  cases xs with
  | nil => cases h
  | cons a r =>
    have ha : dig a = true := h
    have h1 : ¬ ltr a = true := Bool.eq_false_iff.1 h0
    rw [ft, fl, if_neg h1, if_pos ha, List.takeWhile_cons, if_pos ha, Nat.add_comm 1, List.take_succ_cons, (tw_tw dig r).2]
theorem fl_mark {xs : List UInt8} (hn : xs ≠ []) (h0 : hd ltr xs = false) (h : hd dig xs = false) : fl xs = max 1 (mkl xs) := by
  cases xs with
  | nil => exact absurd rfl hn
  | cons a r =>
    have h1 : ¬ ltr a = true := Bool.eq_false_iff.1 h0
    have h2 : ¬ dig a = true := Bool.eq_false_iff.1 h
    rw [fl, if_neg h1, if_neg h2]
theorem hd_ft (p : UInt8 → Bool) {xs : List UInt8} (hn : xs ≠ []) : hd p (ft xs) = hd p xs := by
  cases xs with
  | nil => exact absurd rfl hn
  | cons a r =>
    obtain ⟨k, hk⟩ : ∃ k, fl (a :: r) = k + 1 := ⟨fl (a :: r) - 1, by have := fl_pos hn; omega⟩
    rw [ft, hk, List.take_succ_cons]
    rfl
theorem mkl_ft {xs : List UInt8} (hn : xs ≠ []) (h0 : hd ltr xs = false) (h : hd dig xs = false) : mkl (ft xs) = mkl xs := by
  have hf := fl_mark hn h0 h
  match xs with
  | [] => exact absurd rfl hn
  | [a] =>
    have : ft [a] = [a] := by
      rw [ft]
      exact List.take_of_length_le (by have := fl_pos hn; simpa using this)
    rw [this]
  | a :: b :: r =>
    rw [ft, hf]
    by_cases h4 : mk2 a b = true
    · have : ∀ r, mkl (a :: b :: r) = 2 := fun r => by simp only [mkl]; rw [if_pos h4]
      rw [this, show max 1 2 = 2 from rfl, List.take_succ_cons, List.take_succ_cons, List.take_zero, this]
    · have h5 : mkl (a :: b :: r) = mkl [a] := by simp only [mkl]; rw [if_neg h4]
      have h6 : max 1 (mkl [a]) = 1 := by simp only [mkl]; split <;> rfl
      rw [h5, h6, List.take_succ_cons, List.take_zero]
theorem tw_all (p : UInt8 → Bool) : ∀ l : List UInt8, ∀ c ∈ l.takeWhile p, p c = true := by
  intro l
  induction l with
  | nil => simp
  | cons a r ih =>
    intro c hc
    rw [List.takeWhile_cons] at hc
    split at hc
    · rcases List.mem_cons.1 hc with rfl | hc
      · assumption
      · exact ih c hc
    · simp at hc
set_option maxHeartbeats 4000000 in
theorem first_any (s : ByteArray) (hs : s.size ≤ 100000) (hn : s.data.toList ≠ []) (w : World) (hE : Env w) : Calls Tryd.prog 27 #[.string s] w fun e w' => e = .returned (.agg #[.int .i64 (kd (ft s.data.toList)), .string ⟨(ft s.data.toList).toArray⟩, .int .i16 (vl (ft s.data.toList)), .int .i64 0]) ∧ Grew w w' := by
  obtain ⟨S, hS⟩ : ∃ S, w.heap.size = S := ⟨_, rfl⟩
  have HE := Lib.hid hE
  have HL := Lib.hid (fun W => (show Calls Tryd.prog 40 #[.string s, .string setL] W fun e w' => e = .returned (.bool (hd ltr s.data.toList)) ∧ W = w' from begins_any isL s W))
  have HD := Lib.hid (fun W => (show Calls Tryd.prog 40 #[.string s, .string setD] W fun e w' => e = .returned (.bool (hd dig s.data.toList)) ∧ W = w' from begins_any isD s W))
  have hfl := ft_len s.data.toList
  have hfl2 : fl s.data.toList ≤ s.size := fl_le s.data.toList
  have hfn := ft_ne hn
  cases h1 : hd ltr s.data.toList with
  | true =>
    have HLO := Lib.hid (fun W => (show Calls Tryd.prog 42 #[.string s, .string setLD] W fun e w' => e = .returned (.string ⟨(ft s.data.toList).toArray⟩) ∧ Grew W w' from by rw [ft_word h1]; exact longest_any isLD s hs W))
    rw [h1] at HL
    have hkd : kd (ft s.data.toList) = if kwl.contains (ft s.data.toList) = true then 3 else if (ft s.data.toList).length ≤ 32 then 1 else 5 := by
      rw [kd, hd_ft ltr hn, h1, if_pos rfl]
    have hvl : vl (ft s.data.toList) = 0 := by
      rw [vl, if_neg]
      rw [hkd]
      split
      · omega
      · split <;> omega
    rw [hkd, hvl]
    generalize ft s.data.toList = t at *
    obtain ⟨T, hT⟩ : ∃ T : ByteArray, (⟨t.toArray⟩ : ByteArray) = T := ⟨_, rfl⟩
    have hTl : t = T.data.toList := by rw [← hT]
    have hTz : t.length = T.size := by rw [hTl]; rfl
    have hw := fun W (h : Env W) => wordP_any T (by omega) W h
    rw [hT] at HLO ⊢
    rw [hTz]
    rw [hTl]
    have HW := Lib.hid hw
    generalize (if kwl.contains T.data.toList = true then (3 : Int) else if T.size ≤ 32 then 1 else 5) = z at HW ⊢
    clear hE hn hfl hfl2 hfn h1 hkd hvl hT hTl hTz hw HD
    go_enter Tryd.func27, Tryd.ntmps27
    go_wp2_with (first
      | (go_at_call 40; generalize hV : World.alloc _ _ = V; have hb : Blk S [.int .i64 0, .string ⟨#[]⟩, .int .i16 0, .int .i64 0] 41 V := (by subst hV hS; exact Blk.new w _ _); have hgV : Grew w V := (by subst hV; exact (Grew.refl w).alloc _); clear hV; with_reducible refine (HL.out _).mono ?_; rintro e w1 ⟨rfl, hw1⟩; subst w1; have HB0 := Lib.hid hb; have HG0 := Lib.hid hgV; clear hb hgV)
      | (go_at_call 42; with_reducible refine (HLO.out _).mono ?_; rintro e w2 ⟨rfl, g2⟩; have HB2 := Lib.hid (HB0.out.grew g2); have HG2 := Lib.hid (HG0.out.trans g2); clear g2)
      | (go_at_call 41; with_reducible refine (HW.out _ (HE.out.grew HG2.out)).mono ?_; rintro e w3 ⟨rfl, g3⟩; have HB3 := Lib.hid (HB2.out.grew g3); have HG3 := Lib.hid (HG2.out.trans g3); clear g3; obtain ⟨q0, q1, q2, q3, r0, r1, r2, r3⟩ := tk4 _ _ _ _ _ HB3.out))
    refine ret_tk (S0 := S) (v0 := .int .i64 z) (v1 := .string T) (v2 := .int .i16 0) (v3 := .int .i64 0) (.inl Tryd.results27) rfl (by go_simp) (by go_simp) (by go_simp) (by go_simp) ⟨rfl, ?_⟩
    repeat (first | with_reducible exact HG3.out | with_reducible refine Grew.sc ?_ (by first | omega | (simp <;> omega)) _ _ | with_reducible refine Grew.alloc ?_ _)
  | false =>
    rw [h1] at HL
    cases h2 : hd dig s.data.toList with
    | true =>
      have HLO := Lib.hid (fun W => (show Calls Tryd.prog 42 #[.string s, .string setD] W fun e w' => e = .returned (.string ⟨(ft s.data.toList).toArray⟩) ∧ Grew W w' from by rw [ft_num h1 h2]; exact longest_any isD s hs W))
      rw [h2] at HD
      have hkd : kd (ft s.data.toList) = if okn (ft s.data.toList) = true then 2 else 5 := by
        rw [kd, hd_ft ltr hn, h1, if_neg (by simp), hd_ft dig hn, h2, if_pos rfl]
      have hvl : vl (ft s.data.toList) = if okn (ft s.data.toList) = true then ((dval 0 (ft s.data.toList) : Nat) : Int) else (0 : Int) := by
        rw [vl, hkd]
        split
        · rw [if_pos rfl]
        · rw [if_neg (by omega)]
      have hdg : ∀ c ∈ ft s.data.toList, 48 ≤ c.toNat ∧ c.toNat ≤ 57 := fun c hc => dig_byte (tw_all dig s.data.toList c (by rw [← ft_num h1 h2]; exact hc))
      rw [hkd, hvl]
      generalize ft s.data.toList = t at *
      obtain ⟨T, hT⟩ : ∃ T : ByteArray, (⟨t.toArray⟩ : ByteArray) = T := ⟨_, rfl⟩
      have hTl : t = T.data.toList := by rw [← hT]
      have hTz : t.length = T.size := by rw [hTl]; rfl
      have hw := fun W (h : Env W) => numberP_any T (by omega) (by rw [← hTl]; exact hfn) (by rw [← hTl]; exact hdg) W h
      rw [hT] at HLO ⊢
      rw [hTl]
      have HW := Lib.hid hw
      generalize (if okn T.data.toList = true then (2 : Int) else 5) = z at HW ⊢
      generalize (if okn T.data.toList = true then ((dval 0 T.data.toList : Nat) : Int) else 0) = y at HW ⊢
      clear hE hn hfl hfl2 hfn h1 h2 hkd hvl hT hTl hTz hw hdg
      go_enter Tryd.func27, Tryd.ntmps27
      go_wp2_with (first
        | (go_at_call 40; generalize hV : World.alloc _ _ = V; have hb : Blk S [.int .i64 0, .string ⟨#[]⟩, .int .i16 0, .int .i64 0] 41 V := (by subst hV hS; exact Blk.new w _ _); have hgV : Grew w V := (by subst hV; exact (Grew.refl w).alloc _); clear hV; with_reducible refine (HL.out _).mono ?_; rintro e w1 ⟨rfl, hw1⟩; subst w1; have HB0 := Lib.hid hb; have HG0 := Lib.hid hgV; clear hb hgV)
        | (go_at_call 40; with_reducible refine (HD.out _).mono ?_; rintro e w1 ⟨rfl, hw1⟩; subst w1)
        | (go_at_call 42; with_reducible refine (HLO.out _).mono ?_; rintro e w2 ⟨rfl, g2⟩; have HB2 := Lib.hid (HB0.out.grew g2); have HG2 := Lib.hid (HG0.out.trans g2); clear g2)
        | (go_at_call 43; with_reducible refine (HW.out _ (HE.out.grew HG2.out)).mono ?_; rintro e w3 ⟨rfl, g3⟩; have HB3 := Lib.hid (HB2.out.grew g3); have HG3 := Lib.hid (HG2.out.trans g3); clear g3; obtain ⟨q0, q1, q2, q3, r0, r1, r2, r3⟩ := tk4 _ _ _ _ _ HB3.out))
      refine ret_tk (S0 := S) (v0 := .int .i64 z) (v1 := .string T) (v2 := .int .i16 y) (v3 := .int .i64 0) (.inl Tryd.results27) rfl (by go_simp) (by go_simp) (by go_simp) (by go_simp) ⟨rfl, ?_⟩
      repeat (first | with_reducible exact HG3.out | with_reducible refine Grew.sc ?_ (by first | omega | (simp <;> omega)) _ _ | with_reducible refine Grew.alloc ?_ _)
    | false =>
      rw [h2] at HD
      have hm := mkl_ft hn h1 h2
      have hkd : kd (ft s.data.toList) = if mkl s.data.toList = 0 then 5 else 4 := by
        rw [kd, hd_ft ltr hn, h1, if_neg (by simp), hd_ft dig hn, h2, if_neg (by simp), hm]
      have hvl : vl (ft s.data.toList) = 0 := by
        rw [vl, if_neg]
        rw [hkd]
        split <;> omega
      have hf := fl_mark hn h1 h2
      have hmk := fun W (h : Env W) => mark_any s W h
      by_cases h0 : mkl s.data.toList = 0
      · rw [h0] at hmk hf
        have hlen : 0 < s.size := List.length_pos_iff.2 hn
        have hft : s.extract 0 1 = ⟨(ft s.data.toList).toArray⟩ := by rw [extract_list, ft, hf]; rfl
        rw [hkd, hvl, if_pos h0]
        have HM := Lib.hid hmk
        have hft := Lib.hid hft
        generalize ft s.data.toList = t at hft ⊢
        clear hE hn hfl hfl2 hfn h1 h2 hkd hvl hm hf hmk h0
        go_enter Tryd.func27, Tryd.ntmps27
        go_wp2_with (first
          | (go_at_call 40; generalize hV : World.alloc _ _ = V; have hb : Blk S [.int .i64 0, .string ⟨#[]⟩, .int .i16 0, .int .i64 0] 41 V := (by subst hV hS; exact Blk.new w _ _); have hgV : Grew w V := (by subst hV; exact (Grew.refl w).alloc _); clear hV; with_reducible refine (HL.out _).mono ?_; rintro e w1 ⟨rfl, hw1⟩; subst w1; have HB0 := Lib.hid hb; have HG0 := Lib.hid hgV; clear hb hgV)
          | (go_at_call 40; with_reducible refine (HD.out _).mono ?_; rintro e w1 ⟨rfl, hw1⟩; subst w1)
          | (go_at_call 44; with_reducible refine (HM.out _ (HE.out.grew HG0.out)).mono ?_; rintro e w3 ⟨rfl, g3⟩; have HB3 := Lib.hid (HB0.out.grew g3); have HG3 := Lib.hid (HG0.out.trans g3); clear g3; obtain ⟨q0, q1, q2, q3, r0, r1, r2, r3⟩ := tk4 _ _ _ _ _ HB3.out))
        refine ret_tk (S0 := S) (v0 := .int .i64 5) (v1 := .string (s.extract 0 1)) (v2 := .int .i16 0) (v3 := .int .i64 0) (.inl Tryd.results27) rfl (by go_simp) (by go_simp) (by go_simp) (by go_simp) ⟨(by rw [hft.out]), ?_⟩
        repeat (first | with_reducible exact HG3.out | with_reducible refine Grew.sc ?_ (by first | omega | (simp <;> omega)) _ _ | with_reducible refine Grew.alloc ?_ _)
      · have hft : ft s.data.toList = s.data.toList.take (mkl s.data.toList) := by
          rw [ft, hf, Nat.max_eq_right (by omega)]
        rw [hkd, hvl, if_neg h0]
        rw [← hft] at hmk
        generalize ft s.data.toList = t at *
        obtain ⟨T, hT⟩ : ∃ T : ByteArray, (⟨t.toArray⟩ : ByteArray) = T := ⟨_, rfl⟩
        have hie : T.toList.isEmpty = false := by rw [ByteArray.toList_eq, ← hT, List.isEmpty_eq_false_iff]; exact hfn
        have hne : ¬ T.toList = [] := by rw [ByteArray.toList_eq, ← hT]; exact hfn
        rw [hT] at hmk ⊢
        have HM := Lib.hid hmk
        clear hE hn hfl hfl2 hfn h1 h2 hkd hvl hm hf hmk h0 hft hT
        go_enter Tryd.func27, Tryd.ntmps27
        go_wp2_with (first
          | (go_at_call 40; generalize hV : World.alloc _ _ = V; have hb : Blk S [.int .i64 0, .string ⟨#[]⟩, .int .i16 0, .int .i64 0] 41 V := (by subst hV hS; exact Blk.new w _ _); have hgV : Grew w V := (by subst hV; exact (Grew.refl w).alloc _); clear hV; with_reducible refine (HL.out _).mono ?_; rintro e w1 ⟨rfl, hw1⟩; subst w1; have HB0 := Lib.hid hb; have HG0 := Lib.hid hgV; clear hb hgV)
          | (go_at_call 40; with_reducible refine (HD.out _).mono ?_; rintro e w1 ⟨rfl, hw1⟩; subst w1)
          | (go_at_call 44; with_reducible refine (HM.out _ (HE.out.grew HG0.out)).mono ?_; rintro e w3 ⟨rfl, g3⟩; have HB3 := Lib.hid (HB0.out.grew g3); have HG3 := Lib.hid (HG0.out.trans g3); clear g3; obtain ⟨q0, q1, q2, q3, r0, r1, r2, r3⟩ := tk4 _ _ _ _ _ HB3.out))
        refine ret_tk (S0 := S) (v0 := .int .i64 4) (v1 := .string T) (v2 := .int .i16 0) (v3 := .int .i64 0) (.inl Tryd.results27) rfl (by go_simp) (by go_simp) (by go_simp) (by go_simp) ⟨rfl, ?_⟩
        repeat (first | with_reducible exact HG3.out | with_reducible refine Grew.sc ?_ (by first | omega | (simp <;> omega)) _ _ | with_reducible refine Grew.alloc ?_ _)
end Go.Proofs.YtcajamgajchheaaDoor
