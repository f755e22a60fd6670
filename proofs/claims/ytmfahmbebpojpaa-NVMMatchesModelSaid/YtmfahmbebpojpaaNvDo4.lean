/-
  LAYER 7 (nvm): the statements' do: WriteWord.
-/
import Derived.Test.YtmfahmbebpojpaaNvDo3
namespace Go.Proofs.Ytmfahmbebpojpaa
open Go Go.RowKit Go.IntWalk
set_option linter.unusedSimpArgs false
set_option maxRecDepth 8000

section
variable (g q : Nat) (s : NV) (x : RM) (p : Option Addr) (c : Nat) (L : Int) (kd ad nn : Int) (bp : Option Addr) (nb bc : Nat) (w0 : World) (hI : DoIn g q s x p c L w0) (hL : -9223372036854775807 ≤ L ∧ L ≤ 0)
set_option linter.unusedSectionVars false
include hI hL
set_option maxHeartbeats 4000000 in
theorem do_word (hk : kd.tmod 9 = 1) : Calls Try.prog 13 #[.pointer (some ⟨q, 0, none⟩), rmv x p c, opv kd ad nn bp nb bc] w0 (DoPost g q s p L x.B.length w0) := by
  obtain ⟨vw, hv⟩ : ∃ vw : Int, IntKind.i16.wrap nn = vw := ⟨_, rfl⟩
  have HI := Lib.hid hI
  have Hv := Lib.hid hv
  have HWp : Hid (∀ W, Grew w0 W → NvS W g q s → Calls Try.prog 25 #[.pointer (some ⟨q, 0, none⟩), .int .i64 ad, .int .i16 vw] W fun e w' => ∃ v, e = .returned v ∧ (Chg W w' (Nvb g q s.mt) ∧ (v = .bool (wrs s ad (wordB vw)).2 ∧ NvS w' g q (wrs s ad (wordB vw)).1))) := Lib.hid fun W hg h => by
    refine (writeWord_any g q s ad vw W h).mono ?_
    rintro e w' ⟨rfl, h1, h2⟩
    exact ⟨_, rfl, h2, rfl, h1⟩
  have hsim := (sim_wrs HI.out.M hL ad (wordB vw)).1
  have HM1 : Hid (Sim (L - 1) (wrs s ad (wordB vw)).1 (rwrs x ad (wordB vw)).1) := Lib.hid (sim_wrs HI.out.M hL ad (wordB vw)).2
  have Hmt : Hid (∀ j, (wrs s ad (wordB vw)).1.mt.blk j ↔ s.mt.blk j) := Lib.hid fun j => wrs_blk s ad (wordB vw) j
  have Hl1 : Hid ((rwrs x ad (wordB vw)).1.B.length = x.B.length) := Lib.hid (by rw [← HM1.out.B, wrs_len s ad (wordB vw), HI.out.M.B])
  have HWd : Hid (∀ W, Calls Try.prog 32 #[.int .i16 vw] W fun e w' => ∃ v, e = .returned v ∧ (Grew W w' ∧ IsB (wordB vw) v w')) := Lib.hid fun W => by
    refine (rword_any vw W).mono ?_
    rintro e w' ⟨p2, c2, rfl, h1, h2⟩
    exact ⟨_, rfl, h2, p2, c2, rfl, h1⟩
  have HWr : Hid (∀ (p2 : Option Addr) (c2 : Nat) (W : World), Grew w0 W → Bin W p2 c2 (wordB vw) → Calls Try.prog 31 #[rmv x p c, .int .i64 ad, .slice p2 (wordB vw).length c2] W fun e w' => ∃ p' c', e = .returned (.tuple #[rmv (rwrs x ad (wordB vw)).1 p' c', .bool (rwrs x ad (wordB vw)).2]) ∧ Bin w' p' c' (rwrs x ad (wordB vw)).1.B ∧ Near W p p' ∧ Grew W w') := Lib.hid fun p2 c2 W hg hb2 => rwriteBytes_any x p c ad p2 _ c2 (wordB vw) W hI.most (hI.B.gr hg) rfl hb2
  clear hI
  rw [hsim] at HWp
  clear hsim
  generalize wrs s ad (wordB vw) = r1 at HWp HM1 Hmt Hl1
  obtain ⟨s1, ok0⟩ := r1
  generalize rwrs x ad (wordB vw) = r2 at HWp HM1 Hmt Hl1 HWr
  obtain ⟨x1, ok⟩ := r2
  simp only at HWp HM1 Hmt Hl1 HWr
  clear hv
  go_enter Try.func13, Try.ntmps13
  go_wp2
  refine wp_at2 (fun W => BoxR w0.heap.size x p c W ∧ BoxO (w0.heap.size + 1) kd ad nn bp nb bc W ∧ BoxZ (w0.heap.size + 1 + 1) W ∧ Grew w0 W) ⟨heap_low w0 _ _ _, heap_mid w0 _ _ _, heap_third w0 _ _ _, ((((Grew.refl w0).al _).al _).al _)⟩ ?_
  intro w1 hw1
  have HXb : Hid (∀ w, Grew w1.drew w → BoxR w0.heap.size x p c w) := Lib.hid fun w hg => hw1.1.grew (Grew.trans (Grew.drew w1) hg)
  have HOb : Hid (∀ w, Grew w1.drew w → _) := Lib.hid fun w hg => box4 (hw1.2.1.grew (Grew.trans (Grew.drew w1) hg))
  have HWb : Hid (∀ (p2 : Option Addr) (c2 : Nat) (w : World), Grew w1.drew w → Bin w p2 c2 (wordB vw) → Calls Try.prog 31 #[rmv x p c, .int .i64 ad, .slice p2 (wordB vw).length c2] w fun e w' => ∃ v, e = .returned v ∧ (Grew w w' ∧ IsRB w0 p x1 ok v w')) := Lib.hid fun p2 c2 w hg hb2 => by
    have hg0 := Grew.trans hw1.2.2.2 (Grew.trans (Grew.drew w1) hg)
    refine (HWr.out p2 c2 w hg0 hb2).mono ?_
    rintro e w' ⟨p', c', rfl, h1, h2, h3⟩
    exact ⟨_, rfl, h3, p', c', rfl, h1, Near.trans (.inl rfl) h2 (Below.size hg0)⟩
  have HNz : Hid (∀ w, Grew w1.drew w → w0.heap.size + 1 + 1 + 1 ≤ w.heap.size) := Lib.hid fun w hg => by
    have h1 := lt_of_heap (hw1.2.2.1.grew (Grew.trans (Grew.drew w1) hg))
    omega
  refine wp_region_side 10 _ 12 [some 66, some 67, some 68, some 69, some 70, some 71, some 72, some 73, some 65, some 74, some 75, some 10] [false, false, false, false, false, false, false, false, false, false, true, false, false, false, false, false, false, false, false, false, false, false, false, false, false, false, false, false, false, false, false, false, false, false, false, false, false, false, false, false, false, false, false, false, false, false, false, false, false, false, false, false, false, false, false, false, false, false, false, false, false, false, false, false, false, true, true, true, true, true, true, true, true, true, true, true, false, false, false, false, false, false, false, false, false, false, false, false, false, false, false, false, false, false, false, false, false, false, false, false, false, false, false, false, false, false, false, false, false, false, false, false, false, false, false, false, false, false, false, false, false, false, false, false, false, false, false, false, false, false, false, false, false, false, false, false, false, false, false, false, false, false, false, false, false, false] Grew (postAt [fun v _ => v = rmv x p c, fun v _ => v = .pointer (some ⟨w0.heap.size + 1, 1, none⟩), fun v _ => v = .int .i64 ad, fun v _ => v = .pointer (some ⟨w0.heap.size + 1, 2, none⟩), fun v _ => v = .int .i64 nn, fun v _ => v = .int .i16 vw, fun v w => IsB (wordB vw) v w, fun v w => IsRB w0 p x1 ok v w, fun v w => IsRB w0 p x1 ok v w, fun v w => IsR w0 p x1 v w, fun v _ => v = .bool ok, fun v w => IsZ (w0.heap.size + 1 + 1 + 1) v w]) (by kernel_rfl) (by kernel_rfl) (by kernel_rfl) rfl (by decide) (by kernel_rfl) (by kernel_rfl) rfl (fun _ _ _ _ h => h) rfl Grew.refl (fun h h' => Grew.trans h h') (Monos.at ?_) (fun u w hR hd => by obtain ⟨p2, c2, e1, -, -⟩ := hd.1 rfl; exact ⟨.bool ok, fun w1 => run_ext (ev e1) rfl, rfl⟩) ⟨?_, ?_, ?_, ?_, ?_, ?_, ?_, ?_, ?_, ?_, ?_, ?_, trivial⟩ ?_
  · exact ⟨fun _ _ _ _ h => h, fun _ _ _ _ h => h, fun _ _ _ _ h => h, fun _ _ _ _ h => h, fun _ _ _ _ h => h, fun _ _ _ _ h => h, IsB.grew, IsRB.grew, IsRB.grew, IsR.grew, fun _ _ _ _ h => h, IsZ.grew, trivial⟩
  · intro u w hR hd; exact runs_ldm (ev rfl) (HXb.out w hR) ⟨Grew.refl _, rfl⟩
  · intro u w hR hd; exact runs_fldo1 (ev rfl) ⟨Grew.refl _, rfl⟩
  · intro u w hR hd; exact runs_ldi (ev (hd.1 rfl)) (HOb.out w hR).2.1 ⟨Grew.refl _, rfl⟩
  · intro u w hR hd; exact runs_fldo2 (ev rfl) ⟨Grew.refl _, rfl⟩
  · intro u w hR hd; exact runs_ldi (ev (hd.1 rfl)) (HOb.out w hR).2.2.1 ⟨Grew.refl _, rfl⟩
  · intro u w hR hd; exact runs_cv16 (ev (hd.1 rfl)) ⟨Grew.refl _, congrArg (Value.int .i16) Hv.out⟩
  · intro u w hR hd; exact runs_c1 enters_rword (ev (hd.1 rfl)) (HWd.out w)
  · intro u w hR hd; exact (by obtain ⟨p2, c2, e2, b2⟩ := (hd.2.2.1 rfl); exact runs_c3 enters_rwriteBytes (ev (hd.1 rfl)) (ev (hd.2.1 rfl)) (ev e2) (HWb.out p2 c2 w hR b2))
  · intro u w hR hd; exact runs_mv (ev rfl) ⟨Grew.refl _, (hd.1 rfl)⟩
  · intro u w hR hd; exact (by obtain ⟨p2, c2, e1, b1, n1⟩ := (hd.1 rfl); exact runs_ext (ev e1) rfl ⟨Grew.refl _, p2, c2, rfl, b1, n1⟩)
  · intro u w hR hd; exact (by obtain ⟨p2, c2, e1, -, -⟩ := (hd.1 rfl); exact runs_ext (ev e1) rfl ⟨Grew.refl _, rfl⟩)
  · intro u w hR hd; exact runs_newm ⟨(Grew.refl _).al _, _, rfl, heap_alloc_new _ _, HNz.out w hR⟩
  intro u w hR h
  obtain ⟨S1, e9, hz, hS1⟩ := h 11 (by decide)
  obtain ⟨p1, c1, e38, hb1, hn1⟩ := h 9 (by decide)
  have e39 : u 75 = .bool ok := h 10 (by decide)
  refine wpAny_one (i := 12) none (by kernel_rfl) rfl rfl rfl (runs_stom (S := S1) (x := x1) (p := p1) (c := c1) (ev e9) (ev e38) hz ?_)
  refine wpAny_one (i := 13) (some 11) (by kernel_rfl) rfl rfl rfl (runs_mva (ev e39) ?_)
  refine wpAny_done rfl ?_
  have hgw := Grew.trans (Grew.drew w1) hR
  have k1 : BoxR S1 x1 p1 c1 (set7 w S1 x1 p1 c1) := hz.set7 x1 p1 c1
  have k2 : BoxO (w0.heap.size + 1) kd ad nn bp nb bc (set7 w S1 x1 p1 c1) := (hw1.2.1.grew hgw).chg (set7_chg w S1 x1 p1 c1) (by omega)
  have k3 : BoxZ (w0.heap.size + 1 + 1) (set7 w S1 x1 p1 c1) := (hw1.2.2.1.grew hgw).chg (set7_chg w S1 x1 p1 c1) (by omega)
  have k5 := Bin.boxr (x := ⟨[], false, false, 0, false, 0, 0⟩) (p0 := none) (c0 := 0) hz hb1 x1 p1 c1
  have k6 : Grew w0 (set7 w S1 x1 p1 c1) := (Grew.trans hw1.2.2.2 hgw).set7 (by omega) x1 p1 c1
  have HN1 := Lib.hid hn1
  have hsz : w0.heap.size + 1 + 1 < S1 := by omega
  replace e9 : u 10 = .pointer (some ⟨S1, 0, none⟩) := e9
  simp only [Act.put, mixA, mixL, cond_true, cond_false, List.setIfInBounds_toArray, List.set_cons_succ, List.set_cons_zero]
  rw [e9]
  have HK := Lib.hid (And.intro k1 (And.intro k2 (And.intro k3 (And.intro (HI.out.S.grew k6) (And.intro k5 k6)))))
  clear hz hb1 e38 e39 hR h hgw k1 k2 k3 k5 k6 hn1 e9 HXb HOb HWb HNz hw1
  generalize set7 w S1 x1 p1 c1 = W1 at HK ⊢
  go_wp2
  · refine wp_at2 (fun W => BoxR S1 x1 p1 c1 W ∧ BoxO (w0.heap.size + 1) kd ad nn bp nb bc W ∧ BoxZ (w0.heap.size + 1 + 1) W ∧ NvS W g q s ∧ Bin W p1 c1 x1.B ∧ Grew w0 W) HK.out ?_
    intro W hW
    have HBx : Hid (∀ w, Chg W.drew w (Nvb g q s.mt) → BoxR S1 x1 p1 c1 w) := Lib.hid fun w hc => (hW.1.grew (Grew.drew W)).chg hc (HI.out.notNew (by omega))
    have HO : Hid (∀ w, Chg W.drew w (Nvb g q s.mt) → BoxO (w0.heap.size + 1) kd ad nn bp nb bc w) := Lib.hid fun w hc => (hW.2.1.grew (Grew.drew W)).chg hc (HI.out.notNew (by omega))
    have HO1 : Hid (∀ w, Chg W.drew w (Nvb g q s.mt) → w.cell? ⟨w0.heap.size + 1, 1, none⟩ = some (.int .i64 ad)) := Lib.hid fun w hc => (box4 (HO.out w hc)).2.1
    have HO2 : Hid (∀ w, Chg W.drew w (Nvb g q s.mt) → w.cell? ⟨w0.heap.size + 1, 2, none⟩ = some (.int .i64 nn)) := Lib.hid fun w hc => (box4 (HO.out w hc)).2.2.1
    have HO3 : Hid (∀ w, Chg W.drew w (Nvb g q s.mt) → w.cell? ⟨w0.heap.size + 1, 3, none⟩ = some (.slice bp nb bc)) := Lib.hid fun w hc => (box4 (HO.out w hc)).2.2.2
    have HZ : Hid (∀ w, Chg W.drew w (Nvb g q s.mt) → BoxZ (w0.heap.size + 1 + 1) w) := Lib.hid fun w hc => (hW.2.2.1.grew (Grew.drew W)).chg hc (HI.out.notNew (by omega))
    have HA1 : Hid (Away (Nvb g q s.mt) p1) := Lib.hid (HI.out.A.near HN1.out fun k hk => HI.out.S.blk_lt hk)
    have HA1' : Hid (Away (Nvb g q s1.mt) p1) := Lib.hid fun ad had hj => HA1.out ad had (hj.imp_right fun h => h.imp_right (Hmt.out _).1)
    have HW : Hid (∀ w, Grew W.drew w → _) := Lib.hid fun w hg => HWp.out w (Grew.trans hW.2.2.2.2.2 (Grew.trans (Grew.drew W) hg)) (hW.2.2.2.1.grew (Grew.trans (Grew.drew W) hg))
    refine wp_postsD (fun i => Nat.beq i 8 || Nat.beq i 9) 7 (fun i => Nat.beq i 7) (fun i => Nat.beq i 7) 10 (Nvb g q s.mt) [some 76, some 77, some 78, some 79, some 80, some 81, some 82, some 83, some 84, some 85] [false, false, false, false, false, false, false, false, false, false, false, false, false, false, false, false, false, false, false, false, false, false, false, false, false, false, false, false, false, false, false, false, false, false, false, false, false, false, false, false, false, false, false, false, false, false, false, false, false, false, false, false, false, false, false, false, false, false, false, false, false, false, false, false, false, false, false, false, false, false, false, false, false, false, false, false, true, true, true, true, true, true, true, true, true, true, false, false, false, false, false, false, false, false, false, false, false, false, false, false, false, false, false, false, false, false, false, false, false, false, false, false, false, false, false, false, false, false, false, false, false, false, false, false, false, false, false, false, false, false, false, false, false, false, false, false, false, false, false, false, false, false, false, false, false, false] [fun v _ => v = rmv x1 p1 c1, fun v _ => v = .pointer (some ⟨q, 0, none⟩), fun v _ => v = .pointer (some ⟨w0.heap.size + 1, 1, none⟩), fun v _ => v = .int .i64 ad, fun v _ => v = .pointer (some ⟨w0.heap.size + 1, 2, none⟩), fun v _ => v = .int .i64 nn, fun v _ => v = .int .i16 vw, fun v w => v = .bool ok ∧ NvS w g q s1, fun v _ => v = .bool ok, fun v _ => v = .bool true] (by kernel_rfl) (by kernel_rfl) (by kernel_rfl) (by kernel_rfl) (by kernel_rfl) (fun d _ _ _ _ h => by cases d <;> exact h) rfl (by kernel_rfl) (by kernel_rfl) ?_ ?_ ⟨?_, ?_, ?_, ?_, ?_, ?_, ?_, ?_, ?_, ?_, trivial⟩ ?_
    · intro f of hsf hof
      rcases (Bool.or_eq_true _ _).mp hsf with h | h
      · obtain rfl := Nat.eq_of_beq_eq_true h
        obtain rfl := Option.some.inj hof
        intro u w hR hd
        exact ⟨.bool ok, fun w1 => run_mvx (ev rfl), rfl⟩
      · obtain rfl := Nat.eq_of_beq_eq_true h
        obtain rfl := Option.some.inj hof
        intro u w hR hd
        exact ⟨.bool true, fun w1 => run_eqlbx (ev (hd.1 rfl).1) (ev (hd.2.1 rfl)) (beq_self_eq_true ok), rfl⟩
    · exact ⟨fun _ _ _ _ h => h, fun _ _ _ _ h => h, fun _ _ _ _ h => h, fun _ _ _ _ h => h, fun _ _ _ _ h => h, fun _ _ _ _ h => h, fun _ _ _ _ h => h, fun _ _ _ h p => ⟨p.1, p.2.grew h⟩, fun _ _ _ _ h => h, fun _ _ _ _ h => h, trivial⟩
    · intro u w hR hn hd; exact runs_ldm (ev rfl) (HBx.out w hR) ⟨Grew.refl _, rfl⟩
    · intro u w hR hn hd; exact runs_move ⟨Grew.refl _, rfl⟩
    · intro u w hR hn hd; exact runs_fldo1 (ev rfl) ⟨Grew.refl _, rfl⟩
    · intro u w hR hn hd; exact runs_ldi (ev (hd.1 rfl)) (HO1.out w hR) ⟨Grew.refl _, rfl⟩
    · intro u w hR hn hd; exact runs_fldo2 (ev rfl) ⟨Grew.refl _, rfl⟩
    · intro u w hR hn hd; exact runs_ldi (ev (hd.1 rfl)) (HO2.out w hR) ⟨Grew.refl _, rfl⟩
    · intro u w hR hn hd; exact runs_cv16 (ev (hd.1 rfl)) ⟨Grew.refl _, congrArg (Value.int .i16) Hv.out⟩
    · intro u w hR hn hd; exact runs_c3 enters_writeWord (ev (hd.1 rfl)) (ev (hd.2.1 rfl)) (ev (hd.2.2.1 rfl)) (HW.out w (hn rfl))
    · intro u w hR hn hd; exact runs_move ⟨Grew.refl _, rfl⟩
    · intro u w hR hn hd; exact runs_eqlb (ev (hd.1 rfl).1) (ev (hd.2.1 rfl)) ⟨Grew.refl _, congrArg Value.bool (beq_self_eq_true ok)⟩
    intro u w hR h
    have e0 : u 76 = rmv x1 p1 c1 := h 0 (by decide)
    have eq0 : u 85 = .bool true := h 9 (by decide)
    have hs1 : NvS w g q s1 := (h 7 (by decide)).2
    have hz := HZ.out w hR
    refine wpAny_one (i := 10) none (by kernel_rfl) rfl rfl rfl (runs_stom (S := w0.heap.size + 1 + 1) (x := x1) (p := p1) (c := c1) (ev rfl) (ev e0) hz ?_)
    refine wpAny_one (i := 11) (some 7) (by kernel_rfl) rfl rfl rfl (runs_mva (ev eq0) ?_)
    refine wpAny_done rfl ?_
    simp only [Act.put, mixA, mixL, cond_true, cond_false, List.setIfInBounds_toArray, List.set_cons_succ, List.set_cons_zero]
    have hC := (Chg.of_grew (Grew.trans hW.2.2.2.2.2 (Grew.drew W)) (Nvb g q s.mt)).trans hR
    have hB := (hW.2.2.2.2.1.gr (Grew.drew W)).chg hR HA1.out
    have HE := Lib.hid (And.intro hz (And.intro hs1 (And.intro hC hB)))
    clear h e0 eq0 hs1 hz hC hB hR
    go_wp2
    exact do_end g q s x p L w0 Try.results13 x1 p1 c1 s1 rfl rfl HE.out.1 HE.out.2.1 HE.out.2.2.2 HN1.out HM1.out HE.out.2.2.1 (fun j hj => .inl ((Hmt.out j).1 hj)) HA1'.out Hl1.out
end
end Go.Proofs.Ytmfahmbebpojpaa
