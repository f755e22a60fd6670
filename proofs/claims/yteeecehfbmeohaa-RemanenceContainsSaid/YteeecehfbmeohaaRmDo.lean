/-
  LAYER 9 (remanence): one operation on a clock and on the reference.
-/
import Derived.Test.YteeecehfbmeohaaRmDoOps
namespace Go.Proofs.Yteeecehfbmeohaa
open Go Go.RowKit Go.IntWalk
set_option linter.unusedSimpArgs false
set_option maxRecDepth 8000

/-- An operation: its kind, ticks, interval; what it makes of a clock. -/
abbrev Op9 := Int × Int × Int × Int
abbrev opv (a : Op9) : Value := .agg #[.int .i64 a.1, .int .i64 a.2.1, .int .i64 a.2.2.1, .int .i64 a.2.2.2]
def stp (s : Ck) (a : Op9) : Ck := if a.1 = 0 then offc s a.2.1 a.2.1 else if a.1 = 1 then offc s a.2.2.1 a.2.2.2 else if a.1 = 2 then satc s a.2.2.1 a.2.2.2 else s
theorem Cg.stp {s : Ck} {m : Int} (h : Cg s m) (a : Op9) : Cg (stp s a) (m + 1) := by
  unfold Go.Proofs.Yteeecehfbmeohaa.stp
  split
  · exact (h.off _ _).up (by omega)
  · split
    · exact (h.off _ _).up (by omega)
    · split
      · exact h.sat _ _
      · exact h.up (by omega)
set_option maxHeartbeats 4000000 in
theorem do_any (b S : Nat) (s : Ck) (a : Op9) (w : World) (hb : Blk b (ckc s) 36 w) (hm : Blk S (ckc s) 38 w) (hg : Cg s 4611686018427387904) :
    Calls Try.prog 14 #[.pointer (some ⟨b, 0, none⟩), .pointer (some ⟨S, 0, none⟩), opv a] w fun e w' => e = .returned (.bool true) ∧ Blk b (ckc (stp s a)) 36 w' ∧ Blk S (ckc (stp s a)) 38 w' ∧ Chg w w' (fun j => j = b ∨ j = S) := by
  obtain ⟨kd, t, x, y⟩ := a
  have HB := Lib.hid hb
  have HM := Lib.hid hm
  have HG := Lib.hid hg
  clear hb hm hg
  by_cases k0 : kd = 0
  · subst k0
    show Calls _ _ _ _ fun e w' => e = .returned (.bool true) ∧ Blk b (ckc (offc s t t)) 36 w' ∧ Blk S (ckc (offc s t t)) 38 w' ∧ Chg w w' (fun j => j = b ∨ j = S)
    go_enter Try.func14, Try.ntmps14
    go_wp2_with (go_at_call 20; generalize hW : World.alloc _ _ = V; have hb : Blk b (ckc s) 36 V := (by subst hW; exact HB.out.grew ((Grew.refl _).alloc _)); have hm : Blk S (ckc s) 38 V := (by subst hW; exact HM.out.grew ((Grew.refl _).alloc _)); have ha : Blk w.heap.size [.int .i64 0, .int .i64 t, .int .i64 x, .int .i64 y] 40 V := (by subst hW; exact Blk.new w _ _); have hv : Grew w V := (by subst hW; exact (Grew.refl _).alloc _); clear hW; (with_reducible refine (run_any b s t _ hb HG.out).mono ?_); rintro e w1 ⟨rfl, h1, c1⟩; have hm1 := hm.chg c1 (hm.ne hb (by decide)); have ha1 := ha.chg c1 (ha.ne hb (by decide)); have C1 : Chg w w1 (fun j => j = b ∨ j = S) := (Chg.of_grew hv _).trans (c1.mono fun _ h => .inl h); clear hb hm ha hv c1; have d0 := ha1.cell 0; have d1 := ha1.cell 1; have d2 := ha1.cell 2; have d3 := ha1.cell 3; simp only [List.getElem?_cons_zero, List.getElem?_cons_succ] at d0 d1 d2 d3)
    generalize w.heap.size = A at ha1 d0 d1 d2 d3
    clear d0 d1 d2 d3
    have m0 : Atv ⟨S, 0, none⟩ (.int .i64 s.lo) w1.drew := (hm1.grew (Grew.refl _).drw).atv 0 rfl
    have m1 : Atv ⟨S, 1, none⟩ (.int .i64 s.hi) w1.drew := (hm1.grew (Grew.refl _).drw).atv 1 rfl
    have m2 : Atv ⟨S, 2, none⟩ (.int .i64 s.ep) w1.drew := (hm1.grew (Grew.refl _).drw).atv 2 rfl
    have a1 : Atv ⟨A, 1, none⟩ (.int .i64 t) w1.drew := (ha1.grew (Grew.refl _).drw).atv 1 rfl
    have a2 : Atv ⟨A, 2, none⟩ (.int .i64 x) w1.drew := (ha1.grew (Grew.refl _).drw).atv 2 rfl
    have a3 : Atv ⟨A, 3, none⟩ (.int .i64 y) w1.drew := (ha1.grew (Grew.refl _).drw).atv 3 rfl
    refine wp_sides [9] 11 [some 18, some 19, some 20, some 21, some 22, some 23, some 24, some 17, some 25, some 26, some 27] [false, false, false, false, false, false, false, false, false, false, false, false, false, false, false, false, false, true, true, true, true, true, true, true, true, true, true, true, false, false, false, false, false, false, false, false, false, false, false, false, false, false, false, false, false, false, false, false, false, false, false, false, false, false, false, false, false, false, false, false, false, false, false, false, false, false, false, false, false, false, false, false, false, false, false, false, false, false, false, false, false, false, false] [fun v _ => v = .pointer (some ⟨S, 0, none⟩), fun v _ => v = .pointer (some ⟨S, 0, none⟩), fun v _ => v = .pointer (some ⟨S, 0, none⟩), fun v _ => v = .agg #[.int .i64 (s.lo), .int .i64 (s.hi), .int .i64 (s.ep)], fun v _ => v = .pointer (some ⟨A, 1, none⟩), fun v _ => v = .int .i64 (t), fun v _ => v = .tuple #[.agg #[.int .i64 ((offc s t t).lo), .int .i64 ((offc s t t).hi), .int .i64 ((offc s t t).ep)], .int .i64 (er t t)], fun v _ => v = .tuple #[.agg #[.int .i64 ((offc s t t).lo), .int .i64 ((offc s t t).hi), .int .i64 ((offc s t t).ep)], .int .i64 (er t t)], fun v _ => v = .agg #[.int .i64 ((offc s t t).lo), .int .i64 ((offc s t t).hi), .int .i64 ((offc s t t).ep)], fun v _ => v = .int .i64 (er t t), fun v _ => v = .pointer (some ⟨S, 0, none⟩)] (by kernel_rfl) (by kernel_rfl) (by kernel_rfl) (by kernel_rfl) (by kernel_rfl) (fun d _ _ _ _ h => by cases d <;> exact h) rfl ?_ ⟨fun u w hR hd => ⟨.int .i64 (er t t), fun w1 => run_ext (ev (hd.1 rfl)) rfl, rfl⟩, trivial⟩ ⟨?_, ?_, ?_, ?_, ?_, ?_, ?_, ?_, ?_, ?_, ?_, trivial⟩ ?_
    · exact ⟨fun _ _ _ _ h => h, fun _ _ _ _ h => h, fun _ _ _ _ h => h, fun _ _ _ _ h => h, fun _ _ _ _ h => h, fun _ _ _ _ h => h, fun _ _ _ _ h => h, fun _ _ _ _ h => h, fun _ _ _ _ h => h, fun _ _ _ _ h => h, fun _ _ _ _ h => h, trivial⟩
    · intro u w hR hd; exact runs_mv (ev rfl) ⟨Grew.refl _, rfl⟩
    · intro u w hR hd; exact runs_mv (ev rfl) ⟨Grew.refl _, rfl⟩
    · intro u w hR hd; exact rn_nil (ev (hd.1 rfl)) ⟨Grew.refl _, rfl⟩
    · intro u w hR hd; exact rn_ld_38 (ev (hd.1 rfl)) (m0.kept hR) (m1.kept hR) (m2.kept hR) ⟨Grew.refl _, rfl⟩
    · intro u w hR hd; exact rn_fld_40_1 (ev rfl) ⟨Grew.refl _, rfl⟩
    · intro u w hR hd; exact rn_ld_2 (ev (hd.1 rfl)) (a1.kept hR) ⟨Grew.refl _, rfl⟩
    · intro u w hR hd; exact runs_c2 enters_rrun (ev (hd.1 rfl)) (ev (hd.2.1 rfl)) (callp (fun _ e => e) (rrun_any s t _ HG.out))
    · intro u w hR hd; exact runs_mv (ev (hd.1 rfl)) ⟨Grew.refl _, rfl⟩
    · intro u w hR hd; exact rn_ext (ev (hd.1 rfl)) rfl ⟨Grew.refl _, rfl⟩
    · intro u w hR hd; exact rn_ext (ev (hd.1 rfl)) rfl ⟨Grew.refl _, rfl⟩
    · intro u w hR hd; exact rn_nil (ev (hd.1 rfl)) ⟨Grew.refl _, rfl⟩
    · intro uu w2 hR h
      have hs1 : uu 27 = .pointer (some ⟨S, 0, none⟩) := h 10 (by decide)
      have hs2 : uu 25 = ckv (offc s t t) := h 8 (by decide)
      have hs3 : uu 26 = .int .i64 (er t t) := h 9 (by decide)
      have hm2 := hm1.grew ((Grew.refl w1).drw.trans hR)
      have hb2 := h1.grew ((Grew.refl w1).drw.trans hR)
      have C2 : Chg w w2 (fun j => j = b ∨ j = S) := C1.trans (Chg.of_grew ((Grew.refl w1).drw.trans hR) _)
      refine wpAny_one (i := 11) none (by kernel_rfl) rfl rfl rfl (rn_st_38 (S := S) (o := 0) (ev hs1) (ev hs2) (hm2.atv 0 rfl) (hm2.atv 1 rfl) (hm2.atv 2 rfl) hm2.free ?_)
      refine wpAny_one (i := 12) (some 8) (by kernel_rfl) rfl rfl rfl (runs_mva (ev hs3) ?_)
      refine wpAny_done (by kernel_rfl) ?_ _
      have hne : b ≠ S := hb2.ne hm2 (by decide)
      have hm3 := ((hm2.set 0 (.int .i64 (offc s t t).lo)).set 1 (.int .i64 (offc s t t).hi)).set 2 (.int .i64 (offc s t t).ep)
      have hb3 := ((hb2.other S 0 (.int .i64 (offc s t t).lo) hne).other S 1 (.int .i64 (offc s t t).hi) hne).other S 2 (.int .i64 (offc s t t).ep) hne
      have C3 := ((C2.then_set ⟨S, 0, none⟩ (.int .i64 (offc s t t).lo) (.inr rfl)).then_set ⟨S, 1, none⟩ (.int .i64 (offc s t t).hi) (.inr rfl)).then_set ⟨S, 2, none⟩ (.int .i64 (offc s t t).ep) (.inr rfl)
      simp only [Act.put, mixA, mixL, cond_true, cond_false, List.setIfInBounds_toArray, List.set_cons_succ, List.set_cons_zero]
      simp only [List.set_cons_succ, List.set_cons_zero] at hm3
      generalize hW : World.setCell (World.setCell (World.setCell w2 _ _) _ _) _ _ = W
      rw [hW] at hb3 C3
      have hm3 : Blk S (ckc (offc s t t)) 38 W := hW ▸ hm3
      clear hW h hs1 hs2 hs3 hm2 hb2 C2 hR m0 m1 m2 a1 a2 a3 ha1 hm1 h1 C1
      generalize hz : (offc s t t) = z at hb3 hm3 C3 ⊢
      have HZ := Lib.hid hz
      clear hz
      generalize (er t t) = c
      go_wp2
      have hb : Blk b (ckc z) 36 W.drew := hb3.grew (Grew.refl _).drw
      have hm : Blk S (ckc z) 38 W.drew := hm3.grew (Grew.refl _).drw
      have m0 : Atv ⟨S, 0, none⟩ (.int .i64 z.lo) W.drew := hm.atv 0 rfl
      have m1 : Atv ⟨S, 1, none⟩ (.int .i64 z.hi) W.drew := hm.atv 1 rfl
      have m2 : Atv ⟨S, 2, none⟩ (.int .i64 z.ep) W.drew := hm.atv 2 rfl
      refine wp_posts [some 62, some 63, some 64, some 65, some 66, some 67, some 68, some 69, some 70, some 71, some 72, some 73, some 74, some 75, some 76, some 77, some 78, some 79, some 80, some 81, some 82, some 6] [false, false, false, false, false, false, true, false, false, false, false, false, false, false, false, false, false, false, false, false, false, false, false, false, false, false, false, false, false, false, false, false, false, false, false, false, false, false, false, false, false, false, false, false, false, false, false, false, false, false, false, false, false, false, false, false, false, false, false, false, false, false, true, true, true, true, true, true, true, true, true, true, true, true, true, true, true, true, true, true, true, true, true] [fun v _ => v = .int .i64 (c), fun v _ => v = .int .i64 (c), fun v _ => v = .bool (true), fun v _ => v = .bool (true), fun v _ => v = .pointer (some ⟨b, 0, none⟩), fun v _ => v = .agg #[.int .i64 (z.lo), .int .i64 (z.hi)], fun v _ => v = .pointer (some ⟨S, 0, none⟩), fun v _ => v = .pointer (some ⟨S, 0, none⟩), fun v _ => v = .pointer (some ⟨S, 0, none⟩), fun v _ => v = .agg #[.int .i64 (z.lo), .int .i64 (z.hi)], fun v _ => v = .bool (true), fun v _ => v = .bool (true), fun v _ => v = .bool (true), fun v _ => v = .pointer (some ⟨b, 0, none⟩), fun v _ => v = .int .i64 (z.ep), fun v _ => v = .pointer (some ⟨S, 0, none⟩), fun v _ => v = .pointer (some ⟨S, 0, none⟩), fun v _ => v = .pointer (some ⟨S, 2, none⟩), fun v _ => v = .int .i64 (z.ep), fun v _ => v = .bool (true), fun v _ => v = .bool (true), fun v _ => v = .bool (true)] (by kernel_rfl) (by kernel_rfl) rfl ?_ ⟨?_, ?_, ?_, ?_, ?_, ?_, ?_, ?_, ?_, ?_, ?_, ?_, ?_, ?_, ?_, ?_, ?_, ?_, ?_, ?_, ?_, ?_, trivial⟩ ?_
      · exact ⟨fun _ _ _ _ h => h, fun _ _ _ _ h => h, fun _ _ _ _ h => h, fun _ _ _ _ h => h, fun _ _ _ _ h => h, fun _ _ _ _ h => h, fun _ _ _ _ h => h, fun _ _ _ _ h => h, fun _ _ _ _ h => h, fun _ _ _ _ h => h, fun _ _ _ _ h => h, fun _ _ _ _ h => h, fun _ _ _ _ h => h, fun _ _ _ _ h => h, fun _ _ _ _ h => h, fun _ _ _ _ h => h, fun _ _ _ _ h => h, fun _ _ _ _ h => h, fun _ _ _ _ h => h, fun _ _ _ _ h => h, fun _ _ _ _ h => h, fun _ _ _ _ h => h, trivial⟩
      · intro u w hR hd; exact runs_mv (ev rfl) ⟨Grew.refl _, rfl⟩
      · intro u w hR hd; exact runs_mv (ev rfl) ⟨Grew.refl _, rfl⟩
      · intro u w hR hd; exact rn_eql_26 (ev (hd.1 rfl)) (ev (hd.2.1 rfl)) ⟨Grew.refl _, (congrArg Value.bool (by simp))⟩
      · intro u w hR hd; exact runs_mv (ev (hd.1 rfl)) ⟨Grew.refl _, rfl⟩
      · intro u w hR hd; exact ⟨fun _ => runs_mv (ev rfl) ⟨Grew.refl _, rfl⟩, fun hn => absurd (hd.1 rfl) hn⟩
      · intro u w hR hd; exact ⟨fun _ => runs_c1 enters_now (ev (hd.1 rfl)) (callp (fun _ e => e) (now_any b z _ (hb.grew hR))), fun hn => absurd (hd.2.1 rfl) hn⟩
      · intro u w hR hd; exact ⟨fun _ => runs_mv (ev rfl) ⟨Grew.refl _, rfl⟩, fun hn => absurd (hd.1 rfl) hn⟩
      · intro u w hR hd; exact ⟨fun _ => rn_nil (ev (hd.1 rfl)) ⟨Grew.refl _, rfl⟩, fun hn => absurd (hd.2.1 rfl) hn⟩
      · intro u w hR hd; exact ⟨fun _ => rn_fld_38_0 (ev (hd.1 rfl)) ⟨Grew.refl _, rfl⟩, fun hn => absurd (hd.2.1 rfl) hn⟩
      · intro u w hR hd; exact ⟨fun _ => rn_ld_25 (ev (hd.1 rfl)) (m0.kept hR) (m1.kept hR) ⟨Grew.refl _, rfl⟩, fun hn => absurd (hd.2.1 rfl) hn⟩
      · intro u w hR hd; exact ⟨fun _ => rn_eql_25 (ev (hd.1 rfl)) (ev (hd.2.1 rfl)) ⟨Grew.refl _, (congrArg Value.bool (by simp))⟩, fun hn => absurd (hd.2.2.1 rfl) hn⟩
      · intro u w hR hd; exact runs_an (ev (hd.1 rfl)) (fun hb => ev ((hd.2.1 rfl))) ⟨Grew.refl _, rfl⟩
      · intro u w hR hd; exact runs_mv (ev (hd.1 rfl)) ⟨Grew.refl _, rfl⟩
      · intro u w hR hd; exact ⟨fun _ => runs_mv (ev rfl) ⟨Grew.refl _, rfl⟩, fun hn => absurd (hd.1 rfl) hn⟩
      · intro u w hR hd; exact ⟨fun _ => runs_c1 enters_epoch (ev (hd.1 rfl)) (callp (fun _ e => e) ((epoch_any b z _ (hb.grew hR)).mono fun _ _ h => ⟨h.1, h.2 ▸ Grew.refl _⟩)), fun hn => absurd (hd.2.1 rfl) hn⟩
      · intro u w hR hd; exact ⟨fun _ => runs_mv (ev rfl) ⟨Grew.refl _, rfl⟩, fun hn => absurd (hd.1 rfl) hn⟩
      · intro u w hR hd; exact ⟨fun _ => rn_nil (ev (hd.1 rfl)) ⟨Grew.refl _, rfl⟩, fun hn => absurd (hd.2.1 rfl) hn⟩
      · intro u w hR hd; exact ⟨fun _ => rn_fld_38_1 (ev (hd.1 rfl)) ⟨Grew.refl _, rfl⟩, fun hn => absurd (hd.2.1 rfl) hn⟩
      · intro u w hR hd; exact ⟨fun _ => rn_ld_3 (ev (hd.1 rfl)) (m2.kept hR) ⟨Grew.refl _, rfl⟩, fun hn => absurd (hd.2.1 rfl) hn⟩
      · intro u w hR hd; exact ⟨fun _ => rn_eql_3 (ev (hd.1 rfl)) (ev (hd.2.1 rfl)) ⟨Grew.refl _, (congrArg Value.bool (by simp))⟩, fun hn => absurd (hd.2.2.1 rfl) hn⟩
      · intro u w hR hd; exact runs_an (ev (hd.1 rfl)) (fun hb => ev ((hd.2.1 rfl))) ⟨Grew.refl _, rfl⟩
      · intro u w hR hd; exact runs_mva (ev (hd.1 rfl)) ⟨Grew.refl _, rfl⟩
      · intro u w4 hR h
        have he : u 6 = .bool true := h 21 (by decide)
        simp only [mixA, mixL, cond_true, cond_false]
        rw [he]
        have hg := Grew.trans (Grew.refl W).drw hR
        have H1 := Lib.hid (hb3.grew hg)
        have H2 := Lib.hid (hm3.grew hg)
        have H3 := Lib.hid (C3.trans (Chg.of_grew hg _))
        clear h he hb hm m0 m1 m2 hR hg hb3 hm3 C3
        go_wp2
        go_ret
        exact ⟨rfl, HZ.out ▸ H1.out, HZ.out ▸ H2.out, H3.out⟩
  by_cases k1 : kd = 1
  · subst k1
    show Calls _ _ _ _ fun e w' => e = .returned (.bool true) ∧ Blk b (ckc (offc s x y)) 36 w' ∧ Blk S (ckc (offc s x y)) 38 w' ∧ Chg w w' (fun j => j = b ∨ j = S)
    go_enter Try.func14, Try.ntmps14
    go_wp2_with (go_at_call 21; generalize hW : World.alloc _ _ = V; have hb : Blk b (ckc s) 36 V := (by subst hW; exact HB.out.grew ((Grew.refl _).alloc _)); have hm : Blk S (ckc s) 38 V := (by subst hW; exact HM.out.grew ((Grew.refl _).alloc _)); have ha : Blk w.heap.size [.int .i64 1, .int .i64 t, .int .i64 x, .int .i64 y] 40 V := (by subst hW; exact Blk.new w _ _); have hv : Grew w V := (by subst hW; exact (Grew.refl _).alloc _); clear hW; (with_reducible refine (off_any b s x y _ hb HG.out).mono ?_); rintro e w1 ⟨rfl, h1, c1⟩; have hm1 := hm.chg c1 (hm.ne hb (by decide)); have ha1 := ha.chg c1 (ha.ne hb (by decide)); have C1 : Chg w w1 (fun j => j = b ∨ j = S) := (Chg.of_grew hv _).trans (c1.mono fun _ h => .inl h); clear hb hm ha hv c1; have d0 := ha1.cell 0; have d1 := ha1.cell 1; have d2 := ha1.cell 2; have d3 := ha1.cell 3; simp only [List.getElem?_cons_zero, List.getElem?_cons_succ] at d0 d1 d2 d3)
    generalize w.heap.size = A at ha1 d0 d1 d2 d3
    clear d0 d1 d2 d3
    have m0 : Atv ⟨S, 0, none⟩ (.int .i64 s.lo) w1.drew := (hm1.grew (Grew.refl _).drw).atv 0 rfl
    have m1 : Atv ⟨S, 1, none⟩ (.int .i64 s.hi) w1.drew := (hm1.grew (Grew.refl _).drw).atv 1 rfl
    have m2 : Atv ⟨S, 2, none⟩ (.int .i64 s.ep) w1.drew := (hm1.grew (Grew.refl _).drw).atv 2 rfl
    have a1 : Atv ⟨A, 1, none⟩ (.int .i64 t) w1.drew := (ha1.grew (Grew.refl _).drw).atv 1 rfl
    have a2 : Atv ⟨A, 2, none⟩ (.int .i64 x) w1.drew := (ha1.grew (Grew.refl _).drw).atv 2 rfl
    have a3 : Atv ⟨A, 3, none⟩ (.int .i64 y) w1.drew := (ha1.grew (Grew.refl _).drw).atv 3 rfl
    refine wp_sides [9] 11 [some 35, some 36, some 37, some 38, some 39, some 40, some 41, some 34, some 42, some 43, some 44] [false, false, false, false, false, false, false, false, false, false, false, false, false, false, false, false, false, false, false, false, false, false, false, false, false, false, false, false, false, false, false, false, false, false, true, true, true, true, true, true, true, true, true, true, true, false, false, false, false, false, false, false, false, false, false, false, false, false, false, false, false, false, false, false, false, false, false, false, false, false, false, false, false, false, false, false, false, false, false, false, false, false, false] [fun v _ => v = .pointer (some ⟨S, 0, none⟩), fun v _ => v = .pointer (some ⟨S, 0, none⟩), fun v _ => v = .pointer (some ⟨S, 0, none⟩), fun v _ => v = .agg #[.int .i64 (s.lo), .int .i64 (s.hi), .int .i64 (s.ep)], fun v _ => v = .pointer (some ⟨A, 2, none⟩), fun v _ => v = .agg #[.int .i64 (x), .int .i64 (y)], fun v _ => v = .tuple #[.agg #[.int .i64 ((offc s x y).lo), .int .i64 ((offc s x y).hi), .int .i64 ((offc s x y).ep)], .int .i64 (er x y)], fun v _ => v = .tuple #[.agg #[.int .i64 ((offc s x y).lo), .int .i64 ((offc s x y).hi), .int .i64 ((offc s x y).ep)], .int .i64 (er x y)], fun v _ => v = .agg #[.int .i64 ((offc s x y).lo), .int .i64 ((offc s x y).hi), .int .i64 ((offc s x y).ep)], fun v _ => v = .int .i64 (er x y), fun v _ => v = .pointer (some ⟨S, 0, none⟩)] (by kernel_rfl) (by kernel_rfl) (by kernel_rfl) (by kernel_rfl) (by kernel_rfl) (fun d _ _ _ _ h => by cases d <;> exact h) rfl ?_ ⟨fun u w hR hd => ⟨.int .i64 (er x y), fun w1 => run_ext (ev (hd.1 rfl)) rfl, rfl⟩, trivial⟩ ⟨?_, ?_, ?_, ?_, ?_, ?_, ?_, ?_, ?_, ?_, ?_, trivial⟩ ?_
    · exact ⟨fun _ _ _ _ h => h, fun _ _ _ _ h => h, fun _ _ _ _ h => h, fun _ _ _ _ h => h, fun _ _ _ _ h => h, fun _ _ _ _ h => h, fun _ _ _ _ h => h, fun _ _ _ _ h => h, fun _ _ _ _ h => h, fun _ _ _ _ h => h, fun _ _ _ _ h => h, trivial⟩
    · intro u w hR hd; exact runs_mv (ev rfl) ⟨Grew.refl _, rfl⟩
    · intro u w hR hd; exact runs_mv (ev rfl) ⟨Grew.refl _, rfl⟩
    · intro u w hR hd; exact rn_nil (ev (hd.1 rfl)) ⟨Grew.refl _, rfl⟩
    · intro u w hR hd; exact rn_ld_38 (ev (hd.1 rfl)) (m0.kept hR) (m1.kept hR) (m2.kept hR) ⟨Grew.refl _, rfl⟩
    · intro u w hR hd; exact rn_fld_40_2 (ev rfl) ⟨Grew.refl _, rfl⟩
    · intro u w hR hd; exact rn_ld_25 (ev (hd.1 rfl)) (a2.kept hR) (a3.kept hR) ⟨Grew.refl _, rfl⟩
    · intro u w hR hd; exact runs_c2 enters_roff (ev (hd.1 rfl)) (ev (hd.2.1 rfl)) (callp (fun _ e => e) (roff_any s x y _ HG.out))
    · intro u w hR hd; exact runs_mv (ev (hd.1 rfl)) ⟨Grew.refl _, rfl⟩
    · intro u w hR hd; exact rn_ext (ev (hd.1 rfl)) rfl ⟨Grew.refl _, rfl⟩
    · intro u w hR hd; exact rn_ext (ev (hd.1 rfl)) rfl ⟨Grew.refl _, rfl⟩
    · intro u w hR hd; exact rn_nil (ev (hd.1 rfl)) ⟨Grew.refl _, rfl⟩
    · intro uu w2 hR h
      have hs1 : uu 44 = .pointer (some ⟨S, 0, none⟩) := h 10 (by decide)
      have hs2 : uu 42 = ckv (offc s x y) := h 8 (by decide)
      have hs3 : uu 43 = .int .i64 (er x y) := h 9 (by decide)
      have hm2 := hm1.grew ((Grew.refl w1).drw.trans hR)
      have hb2 := h1.grew ((Grew.refl w1).drw.trans hR)
      have C2 : Chg w w2 (fun j => j = b ∨ j = S) := C1.trans (Chg.of_grew ((Grew.refl w1).drw.trans hR) _)
      refine wpAny_one (i := 11) none (by kernel_rfl) rfl rfl rfl (rn_st_38 (S := S) (o := 0) (ev hs1) (ev hs2) (hm2.atv 0 rfl) (hm2.atv 1 rfl) (hm2.atv 2 rfl) hm2.free ?_)
      refine wpAny_one (i := 12) (some 8) (by kernel_rfl) rfl rfl rfl (runs_mva (ev hs3) ?_)
      refine wpAny_done (by kernel_rfl) ?_ _
      have hne : b ≠ S := hb2.ne hm2 (by decide)
      have hm3 := ((hm2.set 0 (.int .i64 (offc s x y).lo)).set 1 (.int .i64 (offc s x y).hi)).set 2 (.int .i64 (offc s x y).ep)
      have hb3 := ((hb2.other S 0 (.int .i64 (offc s x y).lo) hne).other S 1 (.int .i64 (offc s x y).hi) hne).other S 2 (.int .i64 (offc s x y).ep) hne
      have C3 := ((C2.then_set ⟨S, 0, none⟩ (.int .i64 (offc s x y).lo) (.inr rfl)).then_set ⟨S, 1, none⟩ (.int .i64 (offc s x y).hi) (.inr rfl)).then_set ⟨S, 2, none⟩ (.int .i64 (offc s x y).ep) (.inr rfl)
      simp only [Act.put, mixA, mixL, cond_true, cond_false, List.setIfInBounds_toArray, List.set_cons_succ, List.set_cons_zero]
      simp only [List.set_cons_succ, List.set_cons_zero] at hm3
      generalize hW : World.setCell (World.setCell (World.setCell w2 _ _) _ _) _ _ = W
      rw [hW] at hb3 C3
      have hm3 : Blk S (ckc (offc s x y)) 38 W := hW ▸ hm3
      clear hW h hs1 hs2 hs3 hm2 hb2 C2 hR m0 m1 m2 a1 a2 a3 ha1 hm1 h1 C1
      generalize hz : (offc s x y) = z at hb3 hm3 C3 ⊢
      have HZ := Lib.hid hz
      clear hz
      generalize (er x y) = c
      go_wp2
      have hb : Blk b (ckc z) 36 W.drew := hb3.grew (Grew.refl _).drw
      have hm : Blk S (ckc z) 38 W.drew := hm3.grew (Grew.refl _).drw
      have m0 : Atv ⟨S, 0, none⟩ (.int .i64 z.lo) W.drew := hm.atv 0 rfl
      have m1 : Atv ⟨S, 1, none⟩ (.int .i64 z.hi) W.drew := hm.atv 1 rfl
      have m2 : Atv ⟨S, 2, none⟩ (.int .i64 z.ep) W.drew := hm.atv 2 rfl
      refine wp_posts [some 62, some 63, some 64, some 65, some 66, some 67, some 68, some 69, some 70, some 71, some 72, some 73, some 74, some 75, some 76, some 77, some 78, some 79, some 80, some 81, some 82, some 6] [false, false, false, false, false, false, true, false, false, false, false, false, false, false, false, false, false, false, false, false, false, false, false, false, false, false, false, false, false, false, false, false, false, false, false, false, false, false, false, false, false, false, false, false, false, false, false, false, false, false, false, false, false, false, false, false, false, false, false, false, false, false, true, true, true, true, true, true, true, true, true, true, true, true, true, true, true, true, true, true, true, true, true] [fun v _ => v = .int .i64 (c), fun v _ => v = .int .i64 (c), fun v _ => v = .bool (true), fun v _ => v = .bool (true), fun v _ => v = .pointer (some ⟨b, 0, none⟩), fun v _ => v = .agg #[.int .i64 (z.lo), .int .i64 (z.hi)], fun v _ => v = .pointer (some ⟨S, 0, none⟩), fun v _ => v = .pointer (some ⟨S, 0, none⟩), fun v _ => v = .pointer (some ⟨S, 0, none⟩), fun v _ => v = .agg #[.int .i64 (z.lo), .int .i64 (z.hi)], fun v _ => v = .bool (true), fun v _ => v = .bool (true), fun v _ => v = .bool (true), fun v _ => v = .pointer (some ⟨b, 0, none⟩), fun v _ => v = .int .i64 (z.ep), fun v _ => v = .pointer (some ⟨S, 0, none⟩), fun v _ => v = .pointer (some ⟨S, 0, none⟩), fun v _ => v = .pointer (some ⟨S, 2, none⟩), fun v _ => v = .int .i64 (z.ep), fun v _ => v = .bool (true), fun v _ => v = .bool (true), fun v _ => v = .bool (true)] (by kernel_rfl) (by kernel_rfl) rfl ?_ ⟨?_, ?_, ?_, ?_, ?_, ?_, ?_, ?_, ?_, ?_, ?_, ?_, ?_, ?_, ?_, ?_, ?_, ?_, ?_, ?_, ?_, ?_, trivial⟩ ?_
      · exact ⟨fun _ _ _ _ h => h, fun _ _ _ _ h => h, fun _ _ _ _ h => h, fun _ _ _ _ h => h, fun _ _ _ _ h => h, fun _ _ _ _ h => h, fun _ _ _ _ h => h, fun _ _ _ _ h => h, fun _ _ _ _ h => h, fun _ _ _ _ h => h, fun _ _ _ _ h => h, fun _ _ _ _ h => h, fun _ _ _ _ h => h, fun _ _ _ _ h => h, fun _ _ _ _ h => h, fun _ _ _ _ h => h, fun _ _ _ _ h => h, fun _ _ _ _ h => h, fun _ _ _ _ h => h, fun _ _ _ _ h => h, fun _ _ _ _ h => h, fun _ _ _ _ h => h, trivial⟩
      · intro u w hR hd; exact runs_mv (ev rfl) ⟨Grew.refl _, rfl⟩
      · intro u w hR hd; exact runs_mv (ev rfl) ⟨Grew.refl _, rfl⟩
      · intro u w hR hd; exact rn_eql_26 (ev (hd.1 rfl)) (ev (hd.2.1 rfl)) ⟨Grew.refl _, (congrArg Value.bool (by simp))⟩
      · intro u w hR hd; exact runs_mv (ev (hd.1 rfl)) ⟨Grew.refl _, rfl⟩
      · intro u w hR hd; exact ⟨fun _ => runs_mv (ev rfl) ⟨Grew.refl _, rfl⟩, fun hn => absurd (hd.1 rfl) hn⟩
      · intro u w hR hd; exact ⟨fun _ => runs_c1 enters_now (ev (hd.1 rfl)) (callp (fun _ e => e) (now_any b z _ (hb.grew hR))), fun hn => absurd (hd.2.1 rfl) hn⟩
      · intro u w hR hd; exact ⟨fun _ => runs_mv (ev rfl) ⟨Grew.refl _, rfl⟩, fun hn => absurd (hd.1 rfl) hn⟩
      · intro u w hR hd; exact ⟨fun _ => rn_nil (ev (hd.1 rfl)) ⟨Grew.refl _, rfl⟩, fun hn => absurd (hd.2.1 rfl) hn⟩
      · intro u w hR hd; exact ⟨fun _ => rn_fld_38_0 (ev (hd.1 rfl)) ⟨Grew.refl _, rfl⟩, fun hn => absurd (hd.2.1 rfl) hn⟩
      · intro u w hR hd; exact ⟨fun _ => rn_ld_25 (ev (hd.1 rfl)) (m0.kept hR) (m1.kept hR) ⟨Grew.refl _, rfl⟩, fun hn => absurd (hd.2.1 rfl) hn⟩
      · intro u w hR hd; exact ⟨fun _ => rn_eql_25 (ev (hd.1 rfl)) (ev (hd.2.1 rfl)) ⟨Grew.refl _, (congrArg Value.bool (by simp))⟩, fun hn => absurd (hd.2.2.1 rfl) hn⟩
      · intro u w hR hd; exact runs_an (ev (hd.1 rfl)) (fun hb => ev ((hd.2.1 rfl))) ⟨Grew.refl _, rfl⟩
      · intro u w hR hd; exact runs_mv (ev (hd.1 rfl)) ⟨Grew.refl _, rfl⟩
      · intro u w hR hd; exact ⟨fun _ => runs_mv (ev rfl) ⟨Grew.refl _, rfl⟩, fun hn => absurd (hd.1 rfl) hn⟩
      · intro u w hR hd; exact ⟨fun _ => runs_c1 enters_epoch (ev (hd.1 rfl)) (callp (fun _ e => e) ((epoch_any b z _ (hb.grew hR)).mono fun _ _ h => ⟨h.1, h.2 ▸ Grew.refl _⟩)), fun hn => absurd (hd.2.1 rfl) hn⟩
      · intro u w hR hd; exact ⟨fun _ => runs_mv (ev rfl) ⟨Grew.refl _, rfl⟩, fun hn => absurd (hd.1 rfl) hn⟩
      · intro u w hR hd; exact ⟨fun _ => rn_nil (ev (hd.1 rfl)) ⟨Grew.refl _, rfl⟩, fun hn => absurd (hd.2.1 rfl) hn⟩
      · intro u w hR hd; exact ⟨fun _ => rn_fld_38_1 (ev (hd.1 rfl)) ⟨Grew.refl _, rfl⟩, fun hn => absurd (hd.2.1 rfl) hn⟩
      · intro u w hR hd; exact ⟨fun _ => rn_ld_3 (ev (hd.1 rfl)) (m2.kept hR) ⟨Grew.refl _, rfl⟩, fun hn => absurd (hd.2.1 rfl) hn⟩
      · intro u w hR hd; exact ⟨fun _ => rn_eql_3 (ev (hd.1 rfl)) (ev (hd.2.1 rfl)) ⟨Grew.refl _, (congrArg Value.bool (by simp))⟩, fun hn => absurd (hd.2.2.1 rfl) hn⟩
      · intro u w hR hd; exact runs_an (ev (hd.1 rfl)) (fun hb => ev ((hd.2.1 rfl))) ⟨Grew.refl _, rfl⟩
      · intro u w hR hd; exact runs_mva (ev (hd.1 rfl)) ⟨Grew.refl _, rfl⟩
      · intro u w4 hR h
        have he : u 6 = .bool true := h 21 (by decide)
        simp only [mixA, mixL, cond_true, cond_false]
        rw [he]
        have hg := Grew.trans (Grew.refl W).drw hR
        have H1 := Lib.hid (hb3.grew hg)
        have H2 := Lib.hid (hm3.grew hg)
        have H3 := Lib.hid (C3.trans (Chg.of_grew hg _))
        clear h he hb hm m0 m1 m2 hR hg hb3 hm3 C3
        go_wp2
        go_ret
        exact ⟨rfl, HZ.out ▸ H1.out, HZ.out ▸ H2.out, H3.out⟩
  by_cases k2 : kd = 2
  · subst k2
    show Calls _ _ _ _ fun e w' => e = .returned (.bool true) ∧ Blk b (ckc (satc s x y)) 36 w' ∧ Blk S (ckc (satc s x y)) 38 w' ∧ Chg w w' (fun j => j = b ∨ j = S)
    go_enter Try.func14, Try.ntmps14
    go_wp2_with (go_at_call 22; generalize hW : World.alloc _ _ = V; have hb : Blk b (ckc s) 36 V := (by subst hW; exact HB.out.grew ((Grew.refl _).alloc _)); have hm : Blk S (ckc s) 38 V := (by subst hW; exact HM.out.grew ((Grew.refl _).alloc _)); have ha : Blk w.heap.size [.int .i64 2, .int .i64 t, .int .i64 x, .int .i64 y] 40 V := (by subst hW; exact Blk.new w _ _); have hv : Grew w V := (by subst hW; exact (Grew.refl _).alloc _); clear hW; (with_reducible refine (sat_any b s x y _ hb HG.out).mono ?_); rintro e w1 ⟨rfl, h1, c1⟩; have hm1 := hm.chg c1 (hm.ne hb (by decide)); have ha1 := ha.chg c1 (ha.ne hb (by decide)); have C1 : Chg w w1 (fun j => j = b ∨ j = S) := (Chg.of_grew hv _).trans (c1.mono fun _ h => .inl h); clear hb hm ha hv c1; have d0 := ha1.cell 0; have d1 := ha1.cell 1; have d2 := ha1.cell 2; have d3 := ha1.cell 3; simp only [List.getElem?_cons_zero, List.getElem?_cons_succ] at d0 d1 d2 d3)
    generalize w.heap.size = A at ha1 d0 d1 d2 d3
    clear d0 d1 d2 d3
    have m0 : Atv ⟨S, 0, none⟩ (.int .i64 s.lo) w1.drew := (hm1.grew (Grew.refl _).drw).atv 0 rfl
    have m1 : Atv ⟨S, 1, none⟩ (.int .i64 s.hi) w1.drew := (hm1.grew (Grew.refl _).drw).atv 1 rfl
    have m2 : Atv ⟨S, 2, none⟩ (.int .i64 s.ep) w1.drew := (hm1.grew (Grew.refl _).drw).atv 2 rfl
    have a1 : Atv ⟨A, 1, none⟩ (.int .i64 t) w1.drew := (ha1.grew (Grew.refl _).drw).atv 1 rfl
    have a2 : Atv ⟨A, 2, none⟩ (.int .i64 x) w1.drew := (ha1.grew (Grew.refl _).drw).atv 2 rfl
    have a3 : Atv ⟨A, 3, none⟩ (.int .i64 y) w1.drew := (ha1.grew (Grew.refl _).drw).atv 3 rfl
    refine wp_sides [9] 11 [some 52, some 53, some 54, some 55, some 56, some 57, some 58, some 51, some 59, some 60, some 61] [false, false, false, false, false, false, false, false, false, false, false, false, false, false, false, false, false, false, false, false, false, false, false, false, false, false, false, false, false, false, false, false, false, false, false, false, false, false, false, false, false, false, false, false, false, false, false, false, false, false, false, true, true, true, true, true, true, true, true, true, true, true, false, false, false, false, false, false, false, false, false, false, false, false, false, false, false, false, false, false, false, false, false] [fun v _ => v = .pointer (some ⟨S, 0, none⟩), fun v _ => v = .pointer (some ⟨S, 0, none⟩), fun v _ => v = .pointer (some ⟨S, 0, none⟩), fun v _ => v = .agg #[.int .i64 (s.lo), .int .i64 (s.hi), .int .i64 (s.ep)], fun v _ => v = .pointer (some ⟨A, 2, none⟩), fun v _ => v = .agg #[.int .i64 (x), .int .i64 (y)], fun v _ => v = .tuple #[.agg #[.int .i64 ((satc s x y).lo), .int .i64 ((satc s x y).hi), .int .i64 ((satc s x y).ep)], .int .i64 (er x y)], fun v _ => v = .tuple #[.agg #[.int .i64 ((satc s x y).lo), .int .i64 ((satc s x y).hi), .int .i64 ((satc s x y).ep)], .int .i64 (er x y)], fun v _ => v = .agg #[.int .i64 ((satc s x y).lo), .int .i64 ((satc s x y).hi), .int .i64 ((satc s x y).ep)], fun v _ => v = .int .i64 (er x y), fun v _ => v = .pointer (some ⟨S, 0, none⟩)] (by kernel_rfl) (by kernel_rfl) (by kernel_rfl) (by kernel_rfl) (by kernel_rfl) (fun d _ _ _ _ h => by cases d <;> exact h) rfl ?_ ⟨fun u w hR hd => ⟨.int .i64 (er x y), fun w1 => run_ext (ev (hd.1 rfl)) rfl, rfl⟩, trivial⟩ ⟨?_, ?_, ?_, ?_, ?_, ?_, ?_, ?_, ?_, ?_, ?_, trivial⟩ ?_
    · exact ⟨fun _ _ _ _ h => h, fun _ _ _ _ h => h, fun _ _ _ _ h => h, fun _ _ _ _ h => h, fun _ _ _ _ h => h, fun _ _ _ _ h => h, fun _ _ _ _ h => h, fun _ _ _ _ h => h, fun _ _ _ _ h => h, fun _ _ _ _ h => h, fun _ _ _ _ h => h, trivial⟩
    · intro u w hR hd; exact runs_mv (ev rfl) ⟨Grew.refl _, rfl⟩
    · intro u w hR hd; exact runs_mv (ev rfl) ⟨Grew.refl _, rfl⟩
    · intro u w hR hd; exact rn_nil (ev (hd.1 rfl)) ⟨Grew.refl _, rfl⟩
    · intro u w hR hd; exact rn_ld_38 (ev (hd.1 rfl)) (m0.kept hR) (m1.kept hR) (m2.kept hR) ⟨Grew.refl _, rfl⟩
    · intro u w hR hd; exact rn_fld_40_2 (ev rfl) ⟨Grew.refl _, rfl⟩
    · intro u w hR hd; exact rn_ld_25 (ev (hd.1 rfl)) (a2.kept hR) (a3.kept hR) ⟨Grew.refl _, rfl⟩
    · intro u w hR hd; exact runs_c2 enters_rsat (ev (hd.1 rfl)) (ev (hd.2.1 rfl)) (callp (fun _ e => e) (rsat_any s x y _ HG.out))
    · intro u w hR hd; exact runs_mv (ev (hd.1 rfl)) ⟨Grew.refl _, rfl⟩
    · intro u w hR hd; exact rn_ext (ev (hd.1 rfl)) rfl ⟨Grew.refl _, rfl⟩
    · intro u w hR hd; exact rn_ext (ev (hd.1 rfl)) rfl ⟨Grew.refl _, rfl⟩
    · intro u w hR hd; exact rn_nil (ev (hd.1 rfl)) ⟨Grew.refl _, rfl⟩
    · intro uu w2 hR h
      have hs1 : uu 61 = .pointer (some ⟨S, 0, none⟩) := h 10 (by decide)
      have hs2 : uu 59 = ckv (satc s x y) := h 8 (by decide)
      have hs3 : uu 60 = .int .i64 (er x y) := h 9 (by decide)
      have hm2 := hm1.grew ((Grew.refl w1).drw.trans hR)
      have hb2 := h1.grew ((Grew.refl w1).drw.trans hR)
      have C2 : Chg w w2 (fun j => j = b ∨ j = S) := C1.trans (Chg.of_grew ((Grew.refl w1).drw.trans hR) _)
      refine wpAny_one (i := 11) none (by kernel_rfl) rfl rfl rfl (rn_st_38 (S := S) (o := 0) (ev hs1) (ev hs2) (hm2.atv 0 rfl) (hm2.atv 1 rfl) (hm2.atv 2 rfl) hm2.free ?_)
      refine wpAny_one (i := 12) (some 8) (by kernel_rfl) rfl rfl rfl (runs_mva (ev hs3) ?_)
      refine wpAny_done (by kernel_rfl) ?_ _
      have hne : b ≠ S := hb2.ne hm2 (by decide)
      have hm3 := ((hm2.set 0 (.int .i64 (satc s x y).lo)).set 1 (.int .i64 (satc s x y).hi)).set 2 (.int .i64 (satc s x y).ep)
      have hb3 := ((hb2.other S 0 (.int .i64 (satc s x y).lo) hne).other S 1 (.int .i64 (satc s x y).hi) hne).other S 2 (.int .i64 (satc s x y).ep) hne
      have C3 := ((C2.then_set ⟨S, 0, none⟩ (.int .i64 (satc s x y).lo) (.inr rfl)).then_set ⟨S, 1, none⟩ (.int .i64 (satc s x y).hi) (.inr rfl)).then_set ⟨S, 2, none⟩ (.int .i64 (satc s x y).ep) (.inr rfl)
      simp only [Act.put, mixA, mixL, cond_true, cond_false, List.setIfInBounds_toArray, List.set_cons_succ, List.set_cons_zero]
      simp only [List.set_cons_succ, List.set_cons_zero] at hm3
      generalize hW : World.setCell (World.setCell (World.setCell w2 _ _) _ _) _ _ = W
      rw [hW] at hb3 C3
      have hm3 : Blk S (ckc (satc s x y)) 38 W := hW ▸ hm3
      clear hW h hs1 hs2 hs3 hm2 hb2 C2 hR m0 m1 m2 a1 a2 a3 ha1 hm1 h1 C1
      generalize hz : (satc s x y) = z at hb3 hm3 C3 ⊢
      have HZ := Lib.hid hz
      clear hz
      generalize (er x y) = c
      go_wp2
      have hb : Blk b (ckc z) 36 W.drew := hb3.grew (Grew.refl _).drw
      have hm : Blk S (ckc z) 38 W.drew := hm3.grew (Grew.refl _).drw
      have m0 : Atv ⟨S, 0, none⟩ (.int .i64 z.lo) W.drew := hm.atv 0 rfl
      have m1 : Atv ⟨S, 1, none⟩ (.int .i64 z.hi) W.drew := hm.atv 1 rfl
      have m2 : Atv ⟨S, 2, none⟩ (.int .i64 z.ep) W.drew := hm.atv 2 rfl
      refine wp_posts [some 62, some 63, some 64, some 65, some 66, some 67, some 68, some 69, some 70, some 71, some 72, some 73, some 74, some 75, some 76, some 77, some 78, some 79, some 80, some 81, some 82, some 6] [false, false, false, false, false, false, true, false, false, false, false, false, false, false, false, false, false, false, false, false, false, false, false, false, false, false, false, false, false, false, false, false, false, false, false, false, false, false, false, false, false, false, false, false, false, false, false, false, false, false, false, false, false, false, false, false, false, false, false, false, false, false, true, true, true, true, true, true, true, true, true, true, true, true, true, true, true, true, true, true, true, true, true] [fun v _ => v = .int .i64 (c), fun v _ => v = .int .i64 (c), fun v _ => v = .bool (true), fun v _ => v = .bool (true), fun v _ => v = .pointer (some ⟨b, 0, none⟩), fun v _ => v = .agg #[.int .i64 (z.lo), .int .i64 (z.hi)], fun v _ => v = .pointer (some ⟨S, 0, none⟩), fun v _ => v = .pointer (some ⟨S, 0, none⟩), fun v _ => v = .pointer (some ⟨S, 0, none⟩), fun v _ => v = .agg #[.int .i64 (z.lo), .int .i64 (z.hi)], fun v _ => v = .bool (true), fun v _ => v = .bool (true), fun v _ => v = .bool (true), fun v _ => v = .pointer (some ⟨b, 0, none⟩), fun v _ => v = .int .i64 (z.ep), fun v _ => v = .pointer (some ⟨S, 0, none⟩), fun v _ => v = .pointer (some ⟨S, 0, none⟩), fun v _ => v = .pointer (some ⟨S, 2, none⟩), fun v _ => v = .int .i64 (z.ep), fun v _ => v = .bool (true), fun v _ => v = .bool (true), fun v _ => v = .bool (true)] (by kernel_rfl) (by kernel_rfl) rfl ?_ ⟨?_, ?_, ?_, ?_, ?_, ?_, ?_, ?_, ?_, ?_, ?_, ?_, ?_, ?_, ?_, ?_, ?_, ?_, ?_, ?_, ?_, ?_, trivial⟩ ?_
      · exact ⟨fun _ _ _ _ h => h, fun _ _ _ _ h => h, fun _ _ _ _ h => h, fun _ _ _ _ h => h, fun _ _ _ _ h => h, fun _ _ _ _ h => h, fun _ _ _ _ h => h, fun _ _ _ _ h => h, fun _ _ _ _ h => h, fun _ _ _ _ h => h, fun _ _ _ _ h => h, fun _ _ _ _ h => h, fun _ _ _ _ h => h, fun _ _ _ _ h => h, fun _ _ _ _ h => h, fun _ _ _ _ h => h, fun _ _ _ _ h => h, fun _ _ _ _ h => h, fun _ _ _ _ h => h, fun _ _ _ _ h => h, fun _ _ _ _ h => h, fun _ _ _ _ h => h, trivial⟩
      · intro u w hR hd; exact runs_mv (ev rfl) ⟨Grew.refl _, rfl⟩
      · intro u w hR hd; exact runs_mv (ev rfl) ⟨Grew.refl _, rfl⟩
      · intro u w hR hd; exact rn_eql_26 (ev (hd.1 rfl)) (ev (hd.2.1 rfl)) ⟨Grew.refl _, (congrArg Value.bool (by simp))⟩
      · intro u w hR hd; exact runs_mv (ev (hd.1 rfl)) ⟨Grew.refl _, rfl⟩
      · intro u w hR hd; exact ⟨fun _ => runs_mv (ev rfl) ⟨Grew.refl _, rfl⟩, fun hn => absurd (hd.1 rfl) hn⟩
      · intro u w hR hd; exact ⟨fun _ => runs_c1 enters_now (ev (hd.1 rfl)) (callp (fun _ e => e) (now_any b z _ (hb.grew hR))), fun hn => absurd (hd.2.1 rfl) hn⟩
      · intro u w hR hd; exact ⟨fun _ => runs_mv (ev rfl) ⟨Grew.refl _, rfl⟩, fun hn => absurd (hd.1 rfl) hn⟩
      · intro u w hR hd; exact ⟨fun _ => rn_nil (ev (hd.1 rfl)) ⟨Grew.refl _, rfl⟩, fun hn => absurd (hd.2.1 rfl) hn⟩
      · intro u w hR hd; exact ⟨fun _ => rn_fld_38_0 (ev (hd.1 rfl)) ⟨Grew.refl _, rfl⟩, fun hn => absurd (hd.2.1 rfl) hn⟩
      · intro u w hR hd; exact ⟨fun _ => rn_ld_25 (ev (hd.1 rfl)) (m0.kept hR) (m1.kept hR) ⟨Grew.refl _, rfl⟩, fun hn => absurd (hd.2.1 rfl) hn⟩
      · intro u w hR hd; exact ⟨fun _ => rn_eql_25 (ev (hd.1 rfl)) (ev (hd.2.1 rfl)) ⟨Grew.refl _, (congrArg Value.bool (by simp))⟩, fun hn => absurd (hd.2.2.1 rfl) hn⟩
      · intro u w hR hd; exact runs_an (ev (hd.1 rfl)) (fun hb => ev ((hd.2.1 rfl))) ⟨Grew.refl _, rfl⟩
      · intro u w hR hd; exact runs_mv (ev (hd.1 rfl)) ⟨Grew.refl _, rfl⟩
      · intro u w hR hd; exact ⟨fun _ => runs_mv (ev rfl) ⟨Grew.refl _, rfl⟩, fun hn => absurd (hd.1 rfl) hn⟩
      · intro u w hR hd; exact ⟨fun _ => runs_c1 enters_epoch (ev (hd.1 rfl)) (callp (fun _ e => e) ((epoch_any b z _ (hb.grew hR)).mono fun _ _ h => ⟨h.1, h.2 ▸ Grew.refl _⟩)), fun hn => absurd (hd.2.1 rfl) hn⟩
      · intro u w hR hd; exact ⟨fun _ => runs_mv (ev rfl) ⟨Grew.refl _, rfl⟩, fun hn => absurd (hd.1 rfl) hn⟩
      · intro u w hR hd; exact ⟨fun _ => rn_nil (ev (hd.1 rfl)) ⟨Grew.refl _, rfl⟩, fun hn => absurd (hd.2.1 rfl) hn⟩
      · intro u w hR hd; exact ⟨fun _ => rn_fld_38_1 (ev (hd.1 rfl)) ⟨Grew.refl _, rfl⟩, fun hn => absurd (hd.2.1 rfl) hn⟩
      · intro u w hR hd; exact ⟨fun _ => rn_ld_3 (ev (hd.1 rfl)) (m2.kept hR) ⟨Grew.refl _, rfl⟩, fun hn => absurd (hd.2.1 rfl) hn⟩
      · intro u w hR hd; exact ⟨fun _ => rn_eql_3 (ev (hd.1 rfl)) (ev (hd.2.1 rfl)) ⟨Grew.refl _, (congrArg Value.bool (by simp))⟩, fun hn => absurd (hd.2.2.1 rfl) hn⟩
      · intro u w hR hd; exact runs_an (ev (hd.1 rfl)) (fun hb => ev ((hd.2.1 rfl))) ⟨Grew.refl _, rfl⟩
      · intro u w hR hd; exact runs_mva (ev (hd.1 rfl)) ⟨Grew.refl _, rfl⟩
      · intro u w4 hR h
        have he : u 6 = .bool true := h 21 (by decide)
        simp only [mixA, mixL, cond_true, cond_false]
        rw [he]
        have hg := Grew.trans (Grew.refl W).drw hR
        have H1 := Lib.hid (hb3.grew hg)
        have H2 := Lib.hid (hm3.grew hg)
        have H3 := Lib.hid (C3.trans (Chg.of_grew hg _))
        clear h he hb hm m0 m1 m2 hR hg hb3 hm3 C3
        go_wp2
        go_ret
        exact ⟨rfl, HZ.out ▸ H1.out, HZ.out ▸ H2.out, H3.out⟩
  have hst : stp s (kd, t, x, y) = s := by simp [stp, k0, k1, k2]
  rw [hst]
  go_enter Try.func14, Try.ntmps14
  go_wp2
  generalize hW : World.alloc _ _ = W
  have hb3 : Blk b (ckc s) 36 W := by subst hW; exact HB.out.grew ((Grew.refl _).alloc _)
  have hm3 : Blk S (ckc s) 38 W := by subst hW; exact HM.out.grew ((Grew.refl _).alloc _)
  have C3 : Chg w W (fun j => j = b ∨ j = S) := by subst hW; exact Chg.of_grew ((Grew.refl _).alloc _) _
  clear hW hst
  have HG := 0
  generalize hz : s = z at hb3 hm3 C3 ⊢
  have HZ := Lib.hid hz
  clear hz
  obtain ⟨c, hc⟩ : ∃ c : Int, c = 0 := ⟨_, rfl⟩
  rw [← hc]
  have hb : Blk b (ckc z) 36 W.drew := hb3.grew (Grew.refl _).drw
  have hm : Blk S (ckc z) 38 W.drew := hm3.grew (Grew.refl _).drw
  have m0 : Atv ⟨S, 0, none⟩ (.int .i64 z.lo) W.drew := hm.atv 0 rfl
  have m1 : Atv ⟨S, 1, none⟩ (.int .i64 z.hi) W.drew := hm.atv 1 rfl
  have m2 : Atv ⟨S, 2, none⟩ (.int .i64 z.ep) W.drew := hm.atv 2 rfl
  refine wp_posts [some 62, some 63, some 64, some 65, some 66, some 67, some 68, some 69, some 70, some 71, some 72, some 73, some 74, some 75, some 76, some 77, some 78, some 79, some 80, some 81, some 82, some 6] [false, false, false, false, false, false, true, false, false, false, false, false, false, false, false, false, false, false, false, false, false, false, false, false, false, false, false, false, false, false, false, false, false, false, false, false, false, false, false, false, false, false, false, false, false, false, false, false, false, false, false, false, false, false, false, false, false, false, false, false, false, false, true, true, true, true, true, true, true, true, true, true, true, true, true, true, true, true, true, true, true, true, true] [fun v _ => v = .int .i64 (c), fun v _ => v = .int .i64 (c), fun v _ => v = .bool (true), fun v _ => v = .bool (true), fun v _ => v = .pointer (some ⟨b, 0, none⟩), fun v _ => v = .agg #[.int .i64 (z.lo), .int .i64 (z.hi)], fun v _ => v = .pointer (some ⟨S, 0, none⟩), fun v _ => v = .pointer (some ⟨S, 0, none⟩), fun v _ => v = .pointer (some ⟨S, 0, none⟩), fun v _ => v = .agg #[.int .i64 (z.lo), .int .i64 (z.hi)], fun v _ => v = .bool (true), fun v _ => v = .bool (true), fun v _ => v = .bool (true), fun v _ => v = .pointer (some ⟨b, 0, none⟩), fun v _ => v = .int .i64 (z.ep), fun v _ => v = .pointer (some ⟨S, 0, none⟩), fun v _ => v = .pointer (some ⟨S, 0, none⟩), fun v _ => v = .pointer (some ⟨S, 2, none⟩), fun v _ => v = .int .i64 (z.ep), fun v _ => v = .bool (true), fun v _ => v = .bool (true), fun v _ => v = .bool (true)] (by kernel_rfl) (by kernel_rfl) rfl ?_ ⟨?_, ?_, ?_, ?_, ?_, ?_, ?_, ?_, ?_, ?_, ?_, ?_, ?_, ?_, ?_, ?_, ?_, ?_, ?_, ?_, ?_, ?_, trivial⟩ ?_
  · exact ⟨fun _ _ _ _ h => h, fun _ _ _ _ h => h, fun _ _ _ _ h => h, fun _ _ _ _ h => h, fun _ _ _ _ h => h, fun _ _ _ _ h => h, fun _ _ _ _ h => h, fun _ _ _ _ h => h, fun _ _ _ _ h => h, fun _ _ _ _ h => h, fun _ _ _ _ h => h, fun _ _ _ _ h => h, fun _ _ _ _ h => h, fun _ _ _ _ h => h, fun _ _ _ _ h => h, fun _ _ _ _ h => h, fun _ _ _ _ h => h, fun _ _ _ _ h => h, fun _ _ _ _ h => h, fun _ _ _ _ h => h, fun _ _ _ _ h => h, fun _ _ _ _ h => h, trivial⟩
  · intro u w hR hd; exact runs_mv (ev rfl) ⟨Grew.refl _, rfl⟩
  · intro u w hR hd; exact runs_mv (ev rfl) ⟨Grew.refl _, rfl⟩
  · intro u w hR hd; exact rn_eql_26 (ev (hd.1 rfl)) (ev (hd.2.1 rfl)) ⟨Grew.refl _, (congrArg Value.bool (by simp))⟩
  · intro u w hR hd; exact runs_mv (ev (hd.1 rfl)) ⟨Grew.refl _, rfl⟩
  · intro u w hR hd; exact ⟨fun _ => runs_mv (ev rfl) ⟨Grew.refl _, rfl⟩, fun hn => absurd (hd.1 rfl) hn⟩
  · intro u w hR hd; exact ⟨fun _ => runs_c1 enters_now (ev (hd.1 rfl)) (callp (fun _ e => e) (now_any b z _ (hb.grew hR))), fun hn => absurd (hd.2.1 rfl) hn⟩
  · intro u w hR hd; exact ⟨fun _ => runs_mv (ev rfl) ⟨Grew.refl _, rfl⟩, fun hn => absurd (hd.1 rfl) hn⟩
  · intro u w hR hd; exact ⟨fun _ => rn_nil (ev (hd.1 rfl)) ⟨Grew.refl _, rfl⟩, fun hn => absurd (hd.2.1 rfl) hn⟩
  · intro u w hR hd; exact ⟨fun _ => rn_fld_38_0 (ev (hd.1 rfl)) ⟨Grew.refl _, rfl⟩, fun hn => absurd (hd.2.1 rfl) hn⟩
  · intro u w hR hd; exact ⟨fun _ => rn_ld_25 (ev (hd.1 rfl)) (m0.kept hR) (m1.kept hR) ⟨Grew.refl _, rfl⟩, fun hn => absurd (hd.2.1 rfl) hn⟩
  · intro u w hR hd; exact ⟨fun _ => rn_eql_25 (ev (hd.1 rfl)) (ev (hd.2.1 rfl)) ⟨Grew.refl _, (congrArg Value.bool (by simp))⟩, fun hn => absurd (hd.2.2.1 rfl) hn⟩
  · intro u w hR hd; exact runs_an (ev (hd.1 rfl)) (fun hb => ev ((hd.2.1 rfl))) ⟨Grew.refl _, rfl⟩
  · intro u w hR hd; exact runs_mv (ev (hd.1 rfl)) ⟨Grew.refl _, rfl⟩
  · intro u w hR hd; exact ⟨fun _ => runs_mv (ev rfl) ⟨Grew.refl _, rfl⟩, fun hn => absurd (hd.1 rfl) hn⟩
  · intro u w hR hd; exact ⟨fun _ => runs_c1 enters_epoch (ev (hd.1 rfl)) (callp (fun _ e => e) ((epoch_any b z _ (hb.grew hR)).mono fun _ _ h => ⟨h.1, h.2 ▸ Grew.refl _⟩)), fun hn => absurd (hd.2.1 rfl) hn⟩
  · intro u w hR hd; exact ⟨fun _ => runs_mv (ev rfl) ⟨Grew.refl _, rfl⟩, fun hn => absurd (hd.1 rfl) hn⟩
  · intro u w hR hd; exact ⟨fun _ => rn_nil (ev (hd.1 rfl)) ⟨Grew.refl _, rfl⟩, fun hn => absurd (hd.2.1 rfl) hn⟩
  · intro u w hR hd; exact ⟨fun _ => rn_fld_38_1 (ev (hd.1 rfl)) ⟨Grew.refl _, rfl⟩, fun hn => absurd (hd.2.1 rfl) hn⟩
  · intro u w hR hd; exact ⟨fun _ => rn_ld_3 (ev (hd.1 rfl)) (m2.kept hR) ⟨Grew.refl _, rfl⟩, fun hn => absurd (hd.2.1 rfl) hn⟩
  · intro u w hR hd; exact ⟨fun _ => rn_eql_3 (ev (hd.1 rfl)) (ev (hd.2.1 rfl)) ⟨Grew.refl _, (congrArg Value.bool (by simp))⟩, fun hn => absurd (hd.2.2.1 rfl) hn⟩
  · intro u w hR hd; exact runs_an (ev (hd.1 rfl)) (fun hb => ev ((hd.2.1 rfl))) ⟨Grew.refl _, rfl⟩
  · intro u w hR hd; exact runs_mva (ev (hd.1 rfl)) ⟨Grew.refl _, rfl⟩
  · intro u w4 hR h
    have he : u 6 = .bool true := h 21 (by decide)
    simp only [mixA, mixL, cond_true, cond_false]
    rw [he]
    have hg := Grew.trans (Grew.refl W).drw hR
    have H1 := Lib.hid (hb3.grew hg)
    have H2 := Lib.hid (hm3.grew hg)
    have H3 := Lib.hid (C3.trans (Chg.of_grew hg _))
    clear h he hb hm m0 m1 m2 hR hg hb3 hm3 C3
    go_wp2
    go_ret
    exact ⟨rfl, HZ.out ▸ H1.out, HZ.out ▸ H2.out, H3.out⟩
end Go.Proofs.Yteeecehfbmeohaa
