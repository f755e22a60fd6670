/-
  LAYER 15 (lexer): number (the program's), skipped.
-/
import Derived.Test.YtcajamgajchheaaDoorLxFirst
namespace Go.Proofs.YtcajamgajchheaaDoor
open Go Go.RowKit Go.IntWalk
open Go.Lib (itoa decDigits)
set_option linter.unusedSimpArgs false
set_option linter.unusedVariables false
set_option maxRecDepth 8000

theorem num_eq {t : List UInt8} (hn : t ≠ []) (hd' : ∀ c ∈ t, 48 ≤ c.toNat ∧ c.toNat ≤ 57) (h : dval 0 t ≤ 32767) : (itoa (dval 0 t : Nat) == t) = okn t := by
  rw [Lib.itoa_nonneg, okn, decide_eq_true h, Bool.true_and, Bool.eq_iff_iff, beq_iff_eq]
  by_cases h1 : 1 < t.length ∧ hd (· == 48) t = true
  · rw [decide_eq_true h1.1, h1.2]
    constructor
    · intro e
      exact absurd e (dec_zero hd' h1.1 h1.2)
    · intro e
      exact absurd e (by decide)
  · constructor
    · intro _
      by_cases h2 : 1 < t.length
      · have h3 : hd (· == 48) t = false := by
          cases hx : hd (· == 48) t with
          | false => rfl
          | true => exact absurd ⟨h2, hx⟩ h1
        rw [h3, Bool.and_false]; rfl
      · rw [decide_eq_false h2]; rfl
    · intro _
      exact (dec_canon t.length t rfl hn hd' (fun h2 => by
        cases hx : hd (· == 48) t with
        | false => rfl
        | true => exact absurd ⟨h2, hx⟩ h1)).1
theorem okn_le {t : List UInt8} (h : okn t = true) : dval 0 t ≤ 32767 := by
  simp only [okn, Bool.and_eq_true, decide_eq_true_eq] at h
  exact h.1
theorem okn_big {t : List UInt8} (h : 32767 < dval 0 t) : okn t = false := by
  rw [okn, decide_eq_false (by omega)]; rfl
theorem grew_grow (w : World) (k : Nat) (os : Array Obj) : Grew w (Sort.grow (w.drewN k) os) := by
  refine ⟨rfl, rfl, rfl, by simp [Sort.grow], fun i hi => ?_⟩
  simp [Sort.grow, Array.getElem?_append, hi]
theorem format_any (n : Int) (h0 : 0 ≤ n) (h1 : n ≤ 32767) (w : World) (hE : Env w) : Calls Tryd.prog 59 #[.int .i64 n, .int .i64 10] w fun e w' => e = .returned (.string ⟨(itoa n).toArray⟩) ∧ Grew w w' := by
  refine (Tryd.strconv_FormatInt_10 n (by omega) (by omega) w hE.pow).mono ?_
  rintro e w' ⟨rfl, k, os, rfl⟩
  exact ⟨rfl, grew_grow _ _ _⟩
set_option maxHeartbeats 4000000 in
theorem numberP_any (s : ByteArray) (hs : s.size ≤ 100000) (hn : s.data.toList ≠ []) (hd' : ∀ c ∈ s.data.toList, 48 ≤ c.toNat ∧ c.toNat ≤ 57) (w : World) (hE : Env w) : Calls Tryd.prog 43 #[.string s] w fun e w' => e = .returned (.agg #[.int .i64 (if okn s.data.toList = true then 2 else 5), .string s, .int .i16 (if okn s.data.toList = true then (dval 0 s.data.toList : Nat) else 0), .int .i64 0]) ∧ Grew w w' := by
  obtain ⟨S, hS⟩ : ∃ S, w.heap.size = S := ⟨_, rfl⟩
  rcases parse_dig hn hd' with ⟨hle, hp⟩ | ⟨hgt, hp⟩
  · have heq := num_eq hn hd' hle
    obtain ⟨n, hnn⟩ : ∃ n, dval 0 s.data.toList = n := ⟨_, rfl⟩
    rw [hnn] at heq hle hp ⊢
    have hpc := fun W => Tryd.strconv_ParseInt_10_at16_ok s (by omega) _ hp W
    have HPC := Lib.hid hpc
    have HFC := Lib.hid (fun W h => format_any (n : Int) (by omega) (by omega) W h)
    have HE := Lib.hid hE
    have hbeq : (itoa (n : Int) == s.toList) = okn s.data.toList := by rw [beq_list]; exact heq
    clear hpc hp hd' hn heq hnn hE
    cases hk : okn s.data.toList with
    | true =>
      rw [hk] at hbeq
      clear hk
      rw [if_pos rfl, if_pos rfl]
      go_enter Tryd.func43, Tryd.ntmps43
      go_wp2_with (first
        | (go_at_call 58; generalize hV : World.alloc _ _ = V; have hb : Blk S [.int .i64 0, .string ⟨#[]⟩, .int .i16 0, .int .i64 0] 41 V := (by subst hV hS; exact Blk.new w _ _); have hgV : Grew w V := (by subst hV; exact (Grew.refl w).alloc _); clear hV; (with_reducible refine (HPC.out _).mono ?_); rintro e w1 ⟨rfl, h1⟩; have g1 := grew_ok h1; have HB := Lib.hid (hb.grew g1); have HG := Lib.hid (hgV.trans g1); clear h1 g1 hb hgV)
        | (go_at_call 59; (with_reducible refine (HFC.out _ (HE.out.grew HG.out)).mono ?_); rintro e w2 ⟨rfl, g2⟩; have HB2 := Lib.hid (HB.out.grew g2); have HG2 := Lib.hid (HG.out.trans g2); clear g2; obtain ⟨q0, q1, q2, q3, r0, r1, r2, r3⟩ := tk4 _ _ _ _ _ HB2.out))
      refine ret_tk (S0 := S) (v0 := .int .i64 2) (v1 := .string s) (v2 := .int .i16 n) (v3 := .int .i64 0) (.inl Tryd.results43) rfl (by go_simp) (by go_simp) (by go_simp) (by go_simp) ⟨rfl, ?_⟩
      repeat (first | with_reducible exact HG2.out | with_reducible refine Grew.sc ?_ (by first | omega | (simp <;> omega)) _ _ | with_reducible refine Grew.alloc ?_ _)
    | false =>
      rw [hk] at hbeq
      clear hk
      rw [if_neg (by simp), if_neg (by simp)]
      go_enter Tryd.func43, Tryd.ntmps43
      go_wp2_with (first
        | (go_at_call 58; generalize hV : World.alloc _ _ = V; have hb : Blk S [.int .i64 0, .string ⟨#[]⟩, .int .i16 0, .int .i64 0] 41 V := (by subst hV hS; exact Blk.new w _ _); have hgV : Grew w V := (by subst hV; exact (Grew.refl w).alloc _); clear hV; (with_reducible refine (HPC.out _).mono ?_); rintro e w1 ⟨rfl, h1⟩; have g1 := grew_ok h1; have HB := Lib.hid (hb.grew g1); have HG := Lib.hid (hgV.trans g1); clear h1 g1 hb hgV)
        | (go_at_call 59; (with_reducible refine (HFC.out _ (HE.out.grew HG.out)).mono ?_); rintro e w2 ⟨rfl, g2⟩; have HB2 := Lib.hid (HB.out.grew g2); have HG2 := Lib.hid (HG.out.trans g2); clear g2; obtain ⟨q0, q1, q2, q3, r0, r1, r2, r3⟩ := tk4 _ _ _ _ _ HB2.out))
      refine ret_tk (S0 := S) (v0 := .int .i64 5) (v1 := .string s) (v2 := .int .i16 0) (v3 := .int .i64 0) (.inl Tryd.results43) rfl (by go_simp) (by go_simp) (by go_simp) (by go_simp) ⟨rfl, ?_⟩
      repeat (first | with_reducible exact HG2.out | with_reducible refine Grew.sc ?_ (by first | omega | (simp <;> omega)) _ _ | with_reducible refine Grew.alloc ?_ _)
  · have hk := okn_big hgt
    rw [hk, if_neg (by simp), if_neg (by simp)]
    obtain ⟨tp, pp, hv⟩ := hE.ran
    have HPC := Lib.hid (fun W (h : Grew w W) => Tryd.strconv_ParseInt_10_at16_range_var s (by omega) hp tp pp W (var?_keep h hv))
    generalize Lib.intSat 16 s.data.toList = z at HPC
    have HPD : Hid (∀ W, Grew w W → Calls Tryd.prog 58 #[.string s, .int .i64 10, .int .i64 16] W fun e w' => ∃ T N, e = .returned (.tuple #[.int .i64 z, .iface T (.pointer (some ⟨N, 0, none⟩))]) ∧ Grew W w') := Lib.hid (fun W h => (HPC.out W h).mono fun e w' ⟨N, h1, _, _, h4⟩ => ⟨_, N, h1, h4⟩)
    clear hk hp hgt hn hd' hE hv HPC
    go_enter Tryd.func43, Tryd.ntmps43
    go_wp2_with (go_at_call 58; generalize hV : World.alloc _ _ = V; have hb : Blk S [.int .i64 0, .string ⟨#[]⟩, .int .i16 0, .int .i64 0] 41 V := (by subst hV hS; exact Blk.new w _ _); have hgV : Grew w V := (by subst hV; exact (Grew.refl w).alloc _); clear hV; (with_reducible refine (HPD.out _ hgV).mono ?_); rintro e w1 ⟨T, N, rfl, g1⟩; have HB := Lib.hid (hb.grew g1); have HG := Lib.hid (hgV.trans g1); clear g1 hb hgV; obtain ⟨q0, q1, q2, q3, r0, r1, r2, r3⟩ := tk4 _ _ _ _ _ HB.out)
    refine ret_tk (S0 := S) (v0 := .int .i64 5) (v1 := .string s) (v2 := .int .i16 0) (v3 := .int .i64 0) (.inl Tryd.results43) rfl (by go_simp) (by go_simp) (by go_simp) (by go_simp) ⟨rfl, ?_⟩
    repeat (first | with_reducible exact HG.out | with_reducible refine Grew.sc ?_ (by first | omega | (simp <;> omega)) _ _ | with_reducible refine Grew.alloc ?_ _)
end Go.Proofs.YtcajamgajchheaaDoor
