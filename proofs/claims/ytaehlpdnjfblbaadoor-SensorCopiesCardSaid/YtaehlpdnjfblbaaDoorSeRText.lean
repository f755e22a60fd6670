/-
  CONTRACTS OF LAYER 10's REFERENCE: Num, Format.
-/
import Derived.Test.YtaehlpdnjfblbaaDoorSeRTextOps
namespace Go.Proofs.YtaehlpdnjfblbaaDoor
open Go Go.RowKit Go.IntWalk
open Go.Lib (itoa)
set_option linter.unusedSimpArgs false
set_option linter.unusedVariables false
set_option maxRecDepth 8000

theorem rnum_one (n : Nat) (h : n < 10) (w : World) : Calls Tryd.prog 32 #[.int .i64 n] w fun e w' => e = .returned (.string ⟨(Lib.decDigits n).toArray⟩) ∧ Grew w w' := by
  have HD := Lib.hid (dig_cut n h)
  have h0 : ¬ (n : Int) < 0 := by omega
  have h1 : (n : Int) < 10 := by omega
  go_enter Tryd.func32, Tryd.ntmps32
  go_wp2
  go_ret
  exact ⟨ret_string HD.out, Grew.refl _⟩
theorem rnum_nat (k : Nat) : ∀ (n : Nat) (w : World), n ≤ k → n ≤ 4611686018427387904 → Calls Tryd.prog 32 #[.int .i64 n] w fun e w' => e = .returned (.string ⟨(Lib.decDigits n).toArray⟩) ∧ Grew w w' := by
  induction k with
  | zero => intro n w hk _; exact rnum_one n (by omega) w
  | succ k ih =>
    intro n w hk hb
    by_cases hn : n < 10
    · exact rnum_one n hn w
    · have HD := Lib.hid (show Lib.decDigits n = Lib.decDigits (n / 10) ++ Lib.decDigits (n % 10) by rw [Lib.decDigits, dif_neg hn, Lib.decDigits_one (Nat.mod_lt _ (by omega))])
      have C1 : Hid (∀ w, Calls Tryd.prog 32 #[.int .i64 ((n : Int) / 10)] w fun e w' => e = .returned (.string ⟨(Lib.decDigits (n / 10)).toArray⟩) ∧ Grew w w') := Lib.hid fun w => by
        rw [show ((n : Int) / 10) = ((n / 10 : Nat) : Int) by omega]; exact ih (n / 10) w (by omega) (by omega)
      have l1 := decDigits_pow (n / 10) 18 (by omega)
      have l2 := decDigits_pow (n % 10) 18 (by omega)
      have h0 : ¬ (n : Int) < 0 := by omega
      have h1 : ¬ (n : Int) < 10 := by omega
      go_enter Tryd.func32, Tryd.ntmps32
      go_wp2
      refine wp_posts [some 15, some 16, some 17, some 18, some 19, some 20, some 21, some 22, some 23, some 24, some 2] [false, false, true, false, false, false, false, false, false, false, false, false, false, false, false, true, true, true, true, true, true, true, true, true, true] [fun v _ => v = .int .i64 (((n : Nat) : Int)), fun v _ => v = .int .i64 (((n : Nat) : Int) / 10), fun v _ => v = .string ⟨(Lib.decDigits (n / 10)).toArray⟩, fun v _ => v = .int .i64 (((n : Nat) : Int)), fun v _ => v = .int .i64 (((n : Nat) : Int) % 10), fun v _ => v = .int .i64 (((n : Nat) : Int)), fun v _ => v = .int .i64 (((n : Nat) : Int) % 10), fun v _ => v = .int .i64 ((((n : Nat) : Int) % 10) + (1)), fun v _ => v = .string ⟨(Lib.decDigits (n % 10)).toArray⟩, fun v _ => v = .string ⟨((Lib.decDigits (n / 10)) ++ (Lib.decDigits (n % 10))).toArray⟩, fun v _ => v = .string ⟨((Lib.decDigits (n / 10)) ++ (Lib.decDigits (n % 10))).toArray⟩] (by kernel_rfl) (by kernel_rfl) rfl ?_ ⟨?_, ?_, ?_, ?_, ?_, ?_, ?_, ?_, ?_, ?_, ?_, trivial⟩ ?_
      · exact ⟨fun _ _ _ _ h => h, fun _ _ _ _ h => h, fun _ _ _ _ h => h, fun _ _ _ _ h => h, fun _ _ _ _ h => h, fun _ _ _ _ h => h, fun _ _ _ _ h => h, fun _ _ _ _ h => h, fun _ _ _ _ h => h, fun _ _ _ _ h => h, fun _ _ _ _ h => h, trivial⟩
      · intro u w hR hd; exact runs_mv (ev rfl) ⟨Grew.refl _, rfl⟩
      · intro u w hR hd; exact rn_quo10 (ev (hd.1 rfl)) hb ⟨Grew.refl _, rfl⟩
      · intro u w hR hd; exact runs_c1 enters_num (ev (hd.1 rfl)) (callp (fun _ e => e) (C1.out _))
      · intro u w hR hd; exact runs_mv (ev rfl) ⟨Grew.refl _, rfl⟩
      · intro u w hR hd; exact rn_rem10 (ev (hd.1 rfl)) hb ⟨Grew.refl _, rfl⟩
      · intro u w hR hd; exact runs_mv (ev rfl) ⟨Grew.refl _, rfl⟩
      · intro u w hR hd; exact rn_rem10 (ev (hd.1 rfl)) hb ⟨Grew.refl _, rfl⟩
      · intro u w hR hd; exact rn_add_2 (ev (hd.1 rfl)) rfl (by omega) ⟨Grew.refl _, rfl⟩
      · intro u w hR hd; exact rn_dig (d := n % 10) (ev (hd.1 rfl)) (ev (hd.2.1 rfl)) (by omega) (by omega) (by omega) ⟨Grew.refl _, rfl⟩
      · intro u w hR hd; exact rn_cat_9 (ev (hd.1 rfl)) (ev (hd.2.1 rfl)) (by first | omega | (simp <;> omega)) ⟨Grew.refl _, rfl⟩
      · intro u w hR hd; exact runs_mva (ev (hd.1 rfl)) ⟨Grew.refl _, rfl⟩
      · intro u w4 hR h
        have he : u 2 = .string ⟨(Lib.decDigits (n / 10) ++ Lib.decDigits (n % 10)).toArray⟩ := h 10 (by decide)
        simp only [mixA, mixL, cond_true, cond_false]
        rw [he]
        clear h he
        go_wp2
        go_ret
        exact ⟨ret_string (by rw [HD.out]), (Grew.refl w).drw.trans hR⟩
/-- Num, at every number of up to 62 bits. -/
theorem rnum_any (z : Int) (w : World) (h : -4611686018427387904 ≤ z ∧ z ≤ 4611686018427387904) : Calls Tryd.prog 32 #[.int .i64 z] w fun e w' => e = .returned (.string ⟨(itoa z).toArray⟩) ∧ Grew w w' := by
  by_cases hz : z < 0
  · obtain ⟨u, rfl⟩ : ∃ u : Nat, z = -(u : Int) := ⟨z.natAbs, by omega⟩
    have HI := Lib.hid (Lib.itoa_neg u (by omega))
    have HN := Lib.hid (rnum_nat u u w (Nat.le_refl _) (by omega))
    have l1 := decDigits_pow u 18 (by omega)
    have hw : IntKind.i64.wrap (u : Int) = u := i64_in _ (by omega)
    go_enter Tryd.func32, Tryd.ntmps32
    go_wp2_with (go_at_call 32; (with_reducible refine (HN.out).mono ?_); rintro e w1 ⟨rfl, g1⟩; have HG := Lib.hid g1; clear g1)
    go_ret
    exact ⟨ret_string (by rw [HI.out]; exact str_append [45] _), HG.out⟩
  · obtain ⟨u, rfl⟩ : ∃ u : Nat, z = u := ⟨z.toNat, by omega⟩
    rw [Lib.itoa_nonneg]
    exact rnum_nat u u w (Nat.le_refl _) (by omega)
set_option maxHeartbeats 2000000 in
theorem rformat_any (p : Option Addr) (n c : Nat) (xs : List It) (w : World) (h : Rw 2 itc w p c xs) (hn : xs.length = n) (hg : good xs) (hl : xs.length ≤ 1000) :
    Calls Tryd.prog 21 #[.slice p n c] w fun e w' => e = .returned (.string ⟨(fmtT xs).toArray⟩) ∧ Grew w w' := by
  have HGD := Lib.hid hg
  clear hg
  subst hn
  have HX := Lib.hid h
  have hcap := h.cap
  have hmax := h.max
  clear h
  go_enter Tryd.func21, Tryd.ntmps21
  go_wp2
  go_loopg [3, 8] xs.length (fun gg sv iv wr => ∃ (k : Nat) (pre : List UInt8), sv = .string ⟨pre.toArray⟩ ∧ iv = .int .i64 (k : Int) ∧ k ≤ xs.length ∧ gg = xs.length - k ∧ pre.length ≤ 21 * k ∧ Hid (pre = fmtT (xs.take k)) ∧ Hid (Grew w wr))
  case atStart => exact ⟨0, [], rfl, rfl, Nat.zero_le _, rfl, Nat.le_refl _, Lib.hid rfl, Lib.hid (Grew.refl _)⟩
  case round =>
    obtain ⟨k, pre, rfl, rfl, hk, rfl, hpl, HP, HG⟩ := hrel
    by_cases hlt : k < xs.length
    · obtain ⟨b', o', rfl, hcc⟩ := (HX.out.kept HG.out).rd.cells (by omega)
      have hx : xs[k]? = some xs[k] := by simp [hlt]
      have hc1 := hcc k xs[k] hx
      have hlb : b' < wr.heap.size := World.block_lt_of_cell? _ _ (hc1 0 _ rfl)
      have HLT := Lib.hid (Nat.succ_le_of_lt hlt)
      have HTK := Lib.hid (List.take_succ_eq_append_getElem hlt)
      generalize xs[k] = x at hc1 hx HTK
      have d0 : wr.cell? ⟨b', o' + k * 2, none⟩ = some (.int .i64 x.1) := by simpa using hc1 0 _ rfl
      have d1 : wr.cell? ⟨b', o' + k * 2 + 1, none⟩ = some (.int .i16 x.2) := hc1 1 _ rfl
      have HXK := Lib.hid hx
      clear hcc hc1 hx
      have hr := HGD.out.each x (List.mem_of_getElem? HXK.out)
      go_wp2
      generalize hV : World.alloc _ _ = W1
      have hB : Blk wr.heap.size (itc x) 37 W1 := by subst hV; exact Blk.new wr _ _
      have hG : Grew wr W1 := by subst hV; exact (Grew.refl _).alloc _
      generalize wr.heap.size = S at hB
      clear hV d0 d1
      have hl1 := Lib.itoa_length_le x.1 (by omega) (by omega)
      have hl2 := Lib.itoa_length_le x.2 (by omega) (by omega)
      have hl3 := lineT_len hr
      obtain ⟨⟨r0, r1⟩, r2, r3⟩ := hr
      have c0 : Atv ⟨S, 0, none⟩ (.int .i64 x.1) W1.drew := (hB.grew (Grew.refl _).drw).atv 0 rfl
      have c1 : Atv ⟨S, 1, none⟩ (.int .i16 x.2) W1.drew := (hB.grew (Grew.refl _).drw).atv 1 rfl
      refine wp_grew_tail 12 [some 12, some 13, some 14, some 15, some 16, some 17, some 18, some 19, some 20, some 21, some 22, some 23] [false, false, false, false, false, false, false, false, false, false, false, false, true, true, true, true, true, true, true, true, true, true, true, true, false, false] [fun v _ => v = .string ⟨(pre).toArray⟩, fun v _ => v = .pointer (some ⟨S, 0, none⟩), fun v _ => v = .int .i64 (x.1), fun v _ => v = .string ⟨(itoa (x.1)).toArray⟩, fun v _ => v = .string ⟨((itoa (x.1)) ++ ([32])).toArray⟩, fun v _ => v = .pointer (some ⟨S, 1, none⟩), fun v _ => v = .int .i16 (x.2), fun v _ => v = .int .i64 (x.2), fun v _ => v = .string ⟨(itoa (x.2)).toArray⟩, fun v _ => v = .string ⟨(((itoa (x.1)) ++ ([32])) ++ (itoa (x.2))).toArray⟩, fun v _ => v = .string ⟨((((itoa (x.1)) ++ ([32])) ++ (itoa (x.2))) ++ ([10])).toArray⟩, fun v _ => v = .string ⟨((pre) ++ ((((itoa (x.1)) ++ ([32])) ++ (itoa (x.2))) ++ ([10]))).toArray⟩] (by kernel_rfl) (by kernel_rfl) (by kernel_rfl) rfl ?_ ⟨?_, ?_, ?_, ?_, ?_, ?_, ?_, ?_, ?_, ?_, ?_, ?_, trivial⟩ ?_
      · exact ⟨fun _ _ _ _ h => h, fun _ _ _ _ h => h, fun _ _ _ _ h => h, fun _ _ _ _ h => h, fun _ _ _ _ h => h, fun _ _ _ _ h => h, fun _ _ _ _ h => h, fun _ _ _ _ h => h, fun _ _ _ _ h => h, fun _ _ _ _ h => h, fun _ _ _ _ h => h, fun _ _ _ _ h => h, trivial⟩
      · intro u w hR hd; exact runs_mv (ev rfl) ⟨Grew.refl _, rfl⟩
      · intro u w hR hd; exact rn_fld_37_0 (ev rfl) ⟨Grew.refl _, rfl⟩
      · intro u w hR hd; exact rn_ld_2 (ev (hd.1 rfl)) (c0.kept hR) ⟨Grew.refl _, rfl⟩
      · intro u w hR hd; exact runs_c1 enters_num (ev (hd.1 rfl)) (callp (fun _ e => e) (rnum_any _ _ (by omega)))
      · intro u w hR hd; exact rn_cat_9 (ev (hd.1 rfl)) rfl (by first | omega | (simp <;> omega)) ⟨Grew.refl _, rfl⟩
      · intro u w hR hd; exact rn_fld_37_1 (ev rfl) ⟨Grew.refl _, rfl⟩
      · intro u w hR hd; exact rn_ld_32 (ev (hd.1 rfl)) (c1.kept hR) ⟨Grew.refl _, rfl⟩
      · intro u w hR hd; exact rn_cv_32_2 (ev (hd.1 rfl)) (by omega) ⟨Grew.refl _, rfl⟩
      · intro u w hR hd; exact runs_c1 enters_num (ev (hd.1 rfl)) (callp (fun _ e => e) (rnum_any _ _ (by omega)))
      · intro u w hR hd; exact rn_cat_9 (ev (hd.1 rfl)) (ev (hd.2.1 rfl)) (by first | omega | (simp <;> omega)) ⟨Grew.refl _, rfl⟩
      · intro u w hR hd; exact rn_cat_9 (ev (hd.1 rfl)) rfl (by first | omega | (simp <;> omega)) ⟨Grew.refl _, rfl⟩
      · intro u w hR hd; exact rn_cat_9 (ev (hd.1 rfl)) (ev (hd.2.1 rfl)) (by first | omega | (simp <;> omega)) ⟨Grew.refl _, rfl⟩
      · intro u w4 hR h
        have he : u 23 = .string ⟨(pre ++ (lineT x ++ [10])).toArray⟩ := (h 11 (by decide)).trans (by unfold lineT; simp)
        refine wpAny_one (i := 12) (some 3) (by kernel_rfl) rfl rfl rfl (runs_mva (ev he) ?_)
        refine wpAny_done (by kernel_rfl) ?_ _
        simp only [Act.put, mixA, mixL, cond_true, cond_false, List.setIfInBounds_toArray, List.set_cons_succ, List.set_cons_zero]
        have HG4 := Lib.hid ((HG.out.trans hG).drw.trans hR)
        clear h he c0 c1 hB hR hG
        go_wp2
        go_roundg (xs.length - (k + 1))
        case measure => have := HLT.out; omega
        case rel => exact ⟨k + 1, pre ++ (lineT x ++ [10]), rfl, by go_num, HLT.out, rfl, (by simp; omega), Lib.hid (by rw [HTK.out, fmtT_snoc, HP.out]), HG4⟩
    · obtain rfl : k = xs.length := by omega
      have HZ := Lib.hid (show pre = fmtT xs by rw [HP.out, List.take_length])
      go_wp2
      go_ret
      exact ⟨ret_string (by rw [HZ.out]), HG.out⟩
end Go.Proofs.YtaehlpdnjfblbaaDoor
