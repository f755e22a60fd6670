/-
  LAYER 7 (nvm): the reference's WriteBytes.
-/
import Derived.Test.YtmfahmbebpojpaaNvOps4
import Derived.Test.YtmfahmbebpojpaaPostsSide
import Derived.Deep.LoopGhost
namespace Go.Proofs.Ytmfahmbebpojpaa
open Go Go.RowKit Go.IntWalk
set_option linter.unusedSimpArgs false
set_option maxRecDepth 8000

theorem rwrL_step {r : RM × Bool} {xk : RM} {a : Int} {ys : List UInt8} {k : Nat} (h : r = rwrL xk (a + k) (ys.drop k)) (hk : k < ys.length) (ht : (rwr1 xk (a + k) (ys.getD k 0)).2 = true) :
    r = rwrL (rwr1 xk (a + k) (ys.getD k 0)).1 (a + ((k + 1 : Nat) : Int)) (ys.drop (k + 1)) := by
  rw [h, List.drop_eq_getElem_cons hk]
  simp only [List.getD, List.getElem?_eq_getElem hk, Option.getD_some] at ht ⊢
  simp only [rwrL, ht, if_true]
  congr 1
  omega
theorem rwrL_stop {r : RM × Bool} {xk : RM} {a : Int} {ys : List UInt8} {k : Nat} (h : r = rwrL xk (a + k) (ys.drop k)) (hk : k < ys.length) (ht : (rwr1 xk (a + k) (ys.getD k 0)).2 = false) :
    r = ((rwr1 xk (a + k) (ys.getD k 0)).1, false) := by
  rw [h, List.drop_eq_getElem_cons hk]
  simp only [List.getD, List.getElem?_eq_getElem hk, Option.getD_some] at ht ⊢
  simp only [rwrL, ht, Bool.false_eq_true, if_false]
set_option maxHeartbeats 4000000 in
theorem rwriteBytes_any (x : RM) (p : Option Addr) (c : Nat) (a : Int) (pb : Option Addr) (nb c2 : Nat) (ys : List UInt8) (w0 : World) (hB : x.B.length ≤ 65536) (hx : Bin w0 p c x.B) (hl : ys.length = nb) (hy : Bin w0 pb c2 ys) :
    Calls Try.prog 31 #[rmv x p c, .int .i64 a, .slice pb nb c2] w0 fun e w' => ∃ p' c', e = .returned (.tuple #[rmv (rwrs x a ys).1 p' c', .bool (rwrs x a ys).2]) ∧ Bin w' p' c' (rwrs x a ys).1.B ∧ Near w0 p p' ∧ Grew w0 w' := by
  subst hl
  have hcap := hy.cap
  have hmax := hy.max
  have HX := Lib.hid hx
  have HY := Lib.hid hy
  have HV : Hid (∀ W, Calls Try.prog 36 #[rmv x p c, .int .i64 a, .int .i64 (ys.length : Int)] W fun e w' => e = .returned (.bool (validB x.B.length a ys.length)) ∧ w' = W.alloc (.cells (rmc x p c) 31)) := Lib.hid fun W => rvalid_any x p c a ys.length W hB (by omega)
  have hB' := hB
  clear hx hy hB
  cases hv : validB x.B.length a ys.length with
  | false =>
    have hr : rwrs x a ys = (x, false) := by simp [rwrs, hv]
    rw [hr]
    rw [hv] at HV
    go_enter Try.func31, Try.ntmps31
    go_wp2_with (go_at_call 36; (with_reducible refine (HV.out _).mono ?_); rintro e w1 ⟨rfl, rfl⟩)
    exact ret_rmb Try.results31 rfl rfl (x := x) (pp := p) (c := c) (heap_mid _ _ _ _) ⟨p, c, rfl, HX.out.gr ((((Grew.refl w0).al _).al _).al _), .inl rfl, (((Grew.refl w0).al _).al _).al _⟩
  | true =>
    obtain ⟨ha0, -, ha1⟩ := validB_iff.1 hv
    rw [hv] at HV
    cases ho : x.off with
    | true =>
      have hr : rwrs x a ys = (x, false) := by simp [rwrs, hv, ho]
      rw [hr]
      obtain ⟨B, off, armed, left, metered, bud, wc⟩ := x
      obtain rfl : off = true := ho
      simp only at HV HX
      go_enter Try.func31, Try.ntmps31
      go_wp2_with (go_at_call 36; (with_reducible refine (HV.out _).mono ?_); rintro e w1 ⟨rfl, rfl⟩)
      exact ret_rmb Try.results31 rfl rfl (x := ⟨B, true, armed, left, metered, bud, wc⟩) (pp := p) (c := c) (heap_mid _ _ _ _) ⟨p, c, rfl, HX.out.gr ((((Grew.refl w0).al _).al _).al _), .inl rfl, (((Grew.refl w0).al _).al _).al _⟩
    | false =>
      have hr : rwrs x a ys = rwrL x a ys := by simp [rwrs, hv, ho]
      rw [hr]
      obtain ⟨r, hR⟩ : ∃ r, r = rwrL x a ys := ⟨_, rfl⟩
      rw [← hR]
      have HE := Lib.hid hR
      clear hr hR hv
      obtain ⟨B, off, armed, left, metered, bud, wc⟩ := x
      obtain rfl : off = false := ho
      simp only at HV HX ha1 hB'
      go_enter Try.func31, Try.ntmps31
      go_wp2_with (go_at_call 36; (with_reducible refine (HV.out _).mono ?_); rintro e w1 ⟨rfl, rfl⟩)
      obtain ⟨x, hxx⟩ : ∃ x : RM, x = ⟨B, false, armed, left, metered, bud, wc⟩ := ⟨_, rfl⟩
      rw [← hxx] at HE
      have HLB := Lib.hid (show x.B.length = B.length by rw [hxx])
      have HSB := Lib.hid (show x.B = B by rw [hxx])
      go_loopg [8] ys.length (fun gg iv wr => ∃ (k : Nat) (xk : RM) (pk : Option Addr) (ck : Nat), iv = .int .i64 (k : Int) ∧ k ≤ ys.length ∧ gg = ys.length - k ∧ Hid (BoxR w0.heap.size xk pk ck wr) ∧ Hid (BoxZ (w0.heap.size + 1) wr) ∧ Hid (Bin wr pk ck xk.B) ∧ Hid (Near w0 p pk) ∧ Hid (Grew w0 wr) ∧ Hid (xk.B.length = B.length) ∧ Hid (r = rwrL xk (a + k) (ys.drop k)))
      case atStart => exact ⟨0, _, p, c, rfl, Nat.zero_le _, rfl, Lib.hid (show BoxR w0.heap.size ⟨B, false, armed, left, metered, bud, wc⟩ p c _ from heap_low _ _ _ _), Lib.hid (heap_mid _ _ _ _), Lib.hid (HX.out.gr ((((Grew.refl w0).al _).al _).al _)), Lib.hid (.inl rfl), Lib.hid ((((Grew.refl w0).al _).al _).al _), Lib.hid rfl, Lib.hid (by rw [HE.out, hxx]; simp)⟩
      clear hxx HE HSB HLB HX HV
      case round =>
        obtain ⟨k, xk, pk, ck, rfl, hk, rfl, hS, hZ, hX, hN, hG, hL, hE⟩ := hrel
        by_cases hlt : k < ys.length
        · obtain ⟨_, bb, o, rfl⟩ := (HY.out.parts).resolve_left (fun e => by rw [e] at hlt; simp at hlt)
          have HLT := Lib.hid hlt
          have HA1 : Hid (-9223372036854775808 ≤ a + (k : Int) ∧ a + (k : Int) ≤ 9223372036854775807) := Lib.hid (by omega)
          have HT := Lib.hid (@rwrL_step r xk a ys k hE.out hlt)
          have HF := Lib.hid (@rwrL_stop r xk a ys k hE.out hlt)
          have hl1 := rwr1_len xk (a + k) (ys.getD k 0)
          have HWr : Hid (∀ w, Grew wr.drew w → Calls Try.prog 30 #[rmv xk pk ck, .int .i64 (a + k), .int .u8 ((ys.getD k 0).toNat : Int)] w fun e w' => ∃ p' c', e = .returned (.tuple #[rmv (rwr1 xk (a + k) (ys.getD k 0)).1 p' c', .bool (rwr1 xk (a + k) (ys.getD k 0)).2]) ∧ Bin w' p' c' (rwr1 xk (a + k) (ys.getD k 0)).1.B ∧ Near w pk p' ∧ Grew w w') := Lib.hid fun w hg => rwrite_any xk pk ck (a + k) (ys.getD k 0) w (by rw [hL.out]; exact hB') (hX.out.gr (Grew.trans (Grew.drew wr) hg))
          have HYc := Lib.hid (fun (w : World) (hg : Grew wr.drew w) => ((HY.out.gr hG.out).gr (Grew.trans (Grew.drew wr) hg)).cell k hlt)
          generalize ys.getD k 0 = y at HT HF hl1 HWr HYc
          rw [hL.out] at hl1
          generalize rwr1 xk (a + k) y = r1 at HT HF hl1 HWr
          obtain ⟨x1, ok⟩ := r1
          simp only at HT HF hl1 HWr
          have HL1 := Lib.hid hl1
          have HW : Hid (∀ w, Grew wr.drew w → Calls Try.prog 30 #[rmv xk pk ck, .int .i64 (a + k), .int .u8 (y.toNat : Int)] w fun e w' => ∃ v, e = .returned v ∧ (Grew w w' ∧ IsRB w0 p x1 ok v w')) := Lib.hid fun w hg => by
            refine (HWr.out w hg).mono ?_
            rintro e w' ⟨p', c', rfl, h1, h2, h3⟩
            exact ⟨_, rfl, h3, p', c', rfl, h1, hN.out.trans h2 (Below.size (Grew.trans hG.out (Grew.trans (Grew.drew wr) hg)))⟩
          have HBx := Lib.hid (hS.out.grew (Grew.drew wr))
          have HNz : Hid (∀ w, Grew wr.drew w → wr.heap.size ≤ w.heap.size) := Lib.hid fun w hg => Below.size (Grew.trans (Grew.drew wr) hg)
          have hN2 := lt_of_heap hZ.out
          have hGs := Below.size hG.out
          clear hl1 hE HWr
          go_wp2
          refine wp_region_side 11 _ 13 [some 29, some 30, some 31, some 32, some 33, some 34, some 35, some 36, some 37, some 28, some 38, some 39, some 9] [false, false, false, false, false, false, false, false, false, true, false, false, false, false, false, false, false, false, false, false, false, false, false, false, false, false, false, false, true, true, true, true, true, true, true, true, true, true, true, true, false, false, false, false, false] Grew (postAt [fun v _ => v = rmv xk pk ck, fun v _ => v = .int .i64 a, fun v _ => v = .int .i64 (k : Int), fun v _ => v = .int .i64 (a + k), fun v _ => v = .slice (some ⟨bb, o, none⟩) ys.length c2, fun v _ => v = .int .i64 (k : Int), fun v _ => v = .pointer (some ⟨bb, o + k, none⟩), fun v _ => v = .int .u8 (y.toNat : Int), fun v w => IsRB w0 p x1 ok v w, fun v w => IsRB w0 p x1 ok v w, fun v w => IsR w0 p x1 v w, fun v _ => v = .bool ok, fun v w => IsZ wr.heap.size v w]) (by kernel_rfl) (by kernel_rfl) (by kernel_rfl) rfl (by decide) (by kernel_rfl) (by kernel_rfl) rfl (fun _ _ _ _ h => h) rfl Grew.refl (fun h h' => Grew.trans h h') (Monos.at ?_) (fun u w hR hd => by obtain ⟨p1, c1, e1, -, -⟩ := hd.1 rfl; exact ⟨.bool ok, fun w1 => run_ext (ev e1) rfl, rfl⟩) ⟨?_, ?_, ?_, ?_, ?_, ?_, ?_, ?_, ?_, ?_, ?_, ?_, ?_, trivial⟩ ?_
          · exact ⟨fun _ _ _ _ h => h, fun _ _ _ _ h => h, fun _ _ _ _ h => h, fun _ _ _ _ h => h, fun _ _ _ _ h => h, fun _ _ _ _ h => h, fun _ _ _ _ h => h, fun _ _ _ _ h => h, IsRB.grew, IsRB.grew, IsR.grew, fun _ _ _ _ h => h, IsZ.grew, trivial⟩
          · intro u w hR hd; exact runs_ldm (ev rfl) (HBx.out.grew hR) ⟨Grew.refl _, rfl⟩
          · intro u w hR hd; exact runs_move ⟨Grew.refl _, rfl⟩
          · intro u w hR hd; exact runs_move ⟨Grew.refl _, rfl⟩
          · intro u w hR hd; exact runs_addi (ev (hd.1 rfl)) (ev (hd.2.1 rfl)) HA1.out ⟨Grew.refl _, rfl⟩
          · intro u w hR hd; exact runs_move ⟨Grew.refl _, rfl⟩
          · intro u w hR hd; exact runs_move ⟨Grew.refl _, rfl⟩
          · intro u w hR hd; exact runs_ixb (ev (hd.1 rfl)) (ev (hd.2.1 rfl)) HLT.out ⟨Grew.refl _, rfl⟩
          · intro u w hR hd; exact runs_ld8 (ev (hd.1 rfl)) (HYc.out w hR) ⟨Grew.refl _, rfl⟩
          · intro u w hR hd; exact runs_c3 enters_rwrite (ev (hd.1 rfl)) (ev (hd.2.1 rfl)) (ev (hd.2.2.1 rfl)) (HW.out w hR)
          · intro u w hR hd; exact runs_mv (ev rfl) ⟨Grew.refl _, (hd.1 rfl)⟩
          · intro u w hR hd; exact (by obtain ⟨p1, c1, e1, b1, n1⟩ := (hd.1 rfl); exact runs_ext (ev e1) rfl ⟨Grew.refl _, p1, c1, rfl, b1, n1⟩)
          · intro u w hR hd; exact (by obtain ⟨p1, c1, e1, -, -⟩ := (hd.1 rfl); exact runs_ext (ev e1) rfl ⟨Grew.refl _, rfl⟩)
          · intro u w hR hd; exact runs_newm ⟨(Grew.refl _).al _, _, rfl, heap_alloc_new _ _, HNz.out w hR⟩
          intro u w hR h
          obtain ⟨S1, e9, hz, hS1⟩ := h 12 (by decide)
          obtain ⟨p1, c1, e38, hb1, hn1⟩ := h 10 (by decide)
          have e39 : u 39 = .bool ok := h 11 (by decide)
          refine wpAny_one (i := 13) none (by kernel_rfl) rfl rfl rfl (runs_stom (S := S1) (x := x1) (p := p1) (c := c1) (ev e9) (ev e38) hz ?_)
          refine wpAny_one (i := 14) (some 10) (by kernel_rfl) rfl rfl rfl (runs_mva (ev e39) ?_)
          refine wpAny_done rfl ?_
          have h1 := (hS.out.grew (Grew.trans (Grew.drew wr) hR)).chg (set7_chg w S1 x1 p1 c1) (fun e => by omega)
          have h2 := (hZ.out.grew (Grew.trans (Grew.drew wr) hR)).chg (set7_chg w S1 x1 p1 c1) (fun e => by omega)
          have h3 : BoxR S1 x1 p1 c1 (set7 w S1 x1 p1 c1) := hz.set7 x1 p1 c1
          have h4 := Bin.boxr (x := ⟨[], false, false, 0, false, 0, 0⟩) (p0 := none) (c0 := 0) hz hb1 x1 p1 c1
          have h5 : Grew w0 (set7 w S1 x1 p1 c1) := (Grew.trans hG.out (Grew.trans (Grew.drew wr) hR)).set7 (by omega) x1 p1 c1
          have hne : S1 ≠ w0.heap.size := by omega
          have hne2 : S1 ≠ w0.heap.size + 1 := by omega
          clear hz hb1 e38 hR h
          replace e9 : u 9 = .pointer (some ⟨S1, 0, none⟩) := e9
          simp only [Act.put, mixA, mixL, cond_true, cond_false, List.setIfInBounds_toArray, List.set_cons_succ, List.set_cons_zero]
          rw [e9]
          generalize set7 w S1 x1 p1 c1 = W1 at h1 h2 h3 h4 h5
          obtain ⟨s0, s1, s2, s3, s4, s5, s6, -⟩ := box7 h3
          obtain ⟨n0, n1, n2, n3, n4, n5, n6, nf⟩ := box7 h1
          obtain ⟨z0, z1, z2, z3, z4, z5, z6, zf⟩ := box7 h2
          have H1 := Lib.hid h1
          have H2 := Lib.hid h2
          have H4 := Lib.hid h4
          have H5 := Lib.hid h5
          have Hn1 := Lib.hid hn1
          clear h1 h2 h3 h4 h5 hn1 e9 e39 HW HYc HBx HNz hS hZ hX hN hG
          have hz2 := H2.out.chg (set7_chg W1 w0.heap.size x1 p1 c1) (fun e => by omega)
          have hb2 := Bin.boxr H1.out H4.out x1 p1 c1
          have hg2 := H5.out.set7 (Nat.le_refl _) x1 p1 c1
          have Z2 := Lib.hid hz2
          have B2 := Lib.hid hb2
          have G2 := Lib.hid hg2
          have S2 := Lib.hid (H1.out.set7 x1 p1 c1)
          have HLT2 := Lib.hid (Nat.succ_le_of_lt hlt)
          clear hz2 hb2 hg2
          cases ok with
          | true =>
            have HE1 := Lib.hid (HT.out rfl)
            clear HT HF
            go_wp2
            go_roundg (ys.length - (k + 1))
            case measure => have := HLT2.out; omega
            case rel => exact ⟨k + 1, x1, p1, c1, by go_num, HLT2.out, rfl, S2, Z2, B2, Hn1, G2, HL1, HE1⟩
          | false =>
            have HE1 := Lib.hid (HF.out rfl)
            clear HT HF
            go_wp2
            rw [HE1.out]
            exact ret_rmb Try.results31 rfl rfl (x := x1) (pp := p1) (c := c1) (b := false) (Z2.out.set7 x1 p1 c1) ⟨p1, c1, rfl, Bin.boxr (x := ⟨[], false, false, 0, false, 0, 0⟩) (p0 := none) (c0 := 0) Z2.out B2.out x1 p1 c1, Hn1.out, G2.out.set7 (Nat.le_succ _) x1 p1 c1⟩
        · obtain rfl : k = ys.length := by omega
          have HE1 : Hid (r = (xk, true)) := Lib.hid (by rw [hE.out, List.drop_length]; rfl)
          obtain ⟨n0, n1, n2, n3, n4, n5, n6, nf⟩ := box7 hS.out
          obtain ⟨z0, z1, z2, z3, z4, z5, z6, zf⟩ := box7 hZ.out
          go_wp2
          rw [HE1.out]
          exact ret_rmb Try.results31 rfl rfl (x := xk) (pp := pk) (c := ck) (b := true) (hZ.out.set7 xk pk ck) ⟨pk, ck, rfl, Bin.boxr (x := ⟨[], false, false, 0, false, 0, 0⟩) (p0 := none) (c0 := 0) hZ.out hX.out xk pk ck, hN.out, hG.out.set7 (Nat.le_succ _) xk pk ck⟩
end Go.Proofs.Ytmfahmbebpojpaa
