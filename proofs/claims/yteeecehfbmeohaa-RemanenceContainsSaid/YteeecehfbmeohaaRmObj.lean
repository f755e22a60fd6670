/-
  CONTRACTS OF LAYER 9 (remanence): the methods of a clock.
-/
import Derived.Test.YteeecehfbmeohaaRmOps
namespace Go.Proofs.Yteeecehfbmeohaa
open Go Go.RowKit Go.IntWalk
set_option linter.unusedSimpArgs false
set_option maxRecDepth 8000

theorem off_any (b : Nat) (s : Ck) (x y : Int) (w : World) (h : Blk b (ckc s) 36 w) (hg : Cg s 4611686018427387904) :
    Calls Try.prog 21 #[.pointer (some ⟨b, 0, none⟩), iv x y] w fun e w' => e = .returned (.int .i64 (er x y)) ∧ Blk b (ckc (offc s x y)) 36 w' ∧ Chg w w' (fun k => k = b) := by
  cases hv : va x y with
  | false =>
    have ha : ade s.lo s.hi x y = 1 := by simp [ade, hv]
    rw [er_no hv, offc_no hv]
    clear hg hv
    go_enter Try.func21, Try.ntmps21
    go_wp2
    generalize hV : World.alloc _ _ = W
    have hK : Blk b (ckc s) 36 W := by subst hV; exact h.grew ((Grew.refl _).alloc _)
    have hX : Blk w.heap.size [.int .i64 x, .int .i64 y] 25 W := by subst hV; exact Blk.new w _ _
    have hG : Grew w W := by subst hV; exact (Grew.refl _).alloc _
    generalize w.heap.size = S3 at hX
    clear hV h
    have k0 : Atv ⟨b, 0, none⟩ (.int .i64 s.lo) W.drew := (hK.grew (Grew.refl _).drw).atv 0 rfl
    have k1 : Atv ⟨b, 1, none⟩ (.int .i64 s.hi) W.drew := (hK.grew (Grew.refl _).drw).atv 1 rfl
    have x0 : Atv ⟨S3, 0, none⟩ (.int .i64 x) W.drew := (hX.grew (Grew.refl _).drw).atv 0 rfl
    have x1 : Atv ⟨S3, 1, none⟩ (.int .i64 y) W.drew := (hX.grew (Grew.refl _).drw).atv 1 rfl
    have hB : Grew W W.drew := (Grew.refl _).drw
    refine wp_sides [8] 10 [some 8, some 9, some 10, some 11, some 12, some 13, some 7, some 14, some 15, some 5] [false, false, false, false, false, true, false, true, true, true, true, true, true, true, true, true, false, false, false, false, false, false, false] [fun v _ => v = .pointer (some ⟨b, 0, none⟩), fun v _ => v = .pointer (some ⟨b, 0, none⟩), fun v _ => v = .pointer (some ⟨b, 0, none⟩), fun v _ => v = .agg #[.int .i64 (s.lo), .int .i64 (s.hi)], fun v _ => v = .agg #[.int .i64 (x), .int .i64 (y)], fun v _ => v = .tuple #[.agg #[.int .i64 ((ad s.lo s.hi x y).1), .int .i64 ((ad s.lo s.hi x y).2)], .int .i64 (ade s.lo s.hi x y)], fun v _ => v = .tuple #[.agg #[.int .i64 ((ad s.lo s.hi x y).1), .int .i64 ((ad s.lo s.hi x y).2)], .int .i64 (ade s.lo s.hi x y)], fun v _ => v = .agg #[.int .i64 ((ad s.lo s.hi x y).1), .int .i64 ((ad s.lo s.hi x y).2)], fun v _ => v = .int .i64 (ade s.lo s.hi x y), fun v w => ∃ S, v = .pointer (some ⟨S, 0, none⟩) ∧ W.heap.size ≤ S ∧ Blk S [.int .i64 (0), .int .i64 (0)] 25 w] (by kernel_rfl) (by kernel_rfl) (by kernel_rfl) (by kernel_rfl) (by kernel_rfl) (fun d _ _ _ _ h => by cases d <;> exact h) rfl ?_ ⟨fun u w hR hd => ⟨.int .i64 (ade s.lo s.hi x y), fun w1 => run_ext (ev (hd.1 rfl)) rfl, rfl⟩, trivial⟩ ⟨?_, ?_, ?_, ?_, ?_, ?_, ?_, ?_, ?_, ?_, trivial⟩ ?_
    · exact ⟨fun _ _ _ _ h => h, fun _ _ _ _ h => h, fun _ _ _ _ h => h, fun _ _ _ _ h => h, fun _ _ _ _ h => h, fun _ _ _ _ h => h, fun _ _ _ _ h => h, fun _ _ _ _ h => h, fun _ _ _ _ h => h, fun _ _ _ hg ⟨S, h1, h2, h3⟩ => ⟨S, h1, h2, h3.grew hg⟩, trivial⟩
    · intro u w hR hd; exact runs_mv (ev rfl) ⟨Grew.refl _, rfl⟩
    · intro u w hR hd; exact rn_nil (ev (hd.1 rfl)) ⟨Grew.refl _, rfl⟩
    · intro u w hR hd; exact rn_fld_36_0 (ev (hd.1 rfl)) ⟨Grew.refl _, rfl⟩
    · intro u w hR hd; exact rn_ld_25 (ev (hd.1 rfl)) (k0.kept hR) (k1.kept hR) ⟨Grew.refl _, rfl⟩
    · intro u w hR hd; exact rn_ld_25 (ev rfl) (x0.kept hR) (x1.kept hR) ⟨Grew.refl _, rfl⟩
    · intro u w hR hd; exact runs_c2 enters_add (ev (hd.1 rfl)) (ev (hd.2.1 rfl)) (callp (fun _ e => e) (add_any _ _ _ _ _))
    · intro u w hR hd; exact runs_mv (ev (hd.1 rfl)) ⟨Grew.refl _, rfl⟩
    · intro u w hR hd; exact rn_ext (ev (hd.1 rfl)) rfl ⟨Grew.refl _, rfl⟩
    · intro u w hR hd; exact rn_ext (ev (hd.1 rfl)) rfl ⟨Grew.refl _, rfl⟩
    · intro u w hR hd; exact rn_alloc_25 ⟨(Grew.refl _).alloc _, ⟨_, rfl, Nat.le_trans hB.size hR.size, heap_alloc_new _ _⟩⟩
    · intro uu w1 hR h
      obtain ⟨S5, h5, hS5, hB5⟩ := h 9 (by decide)
      have h14 : uu 14 = iv (ad s.lo s.hi x y).1 (ad s.lo s.hi x y).2 := h 7 (by decide)
      have h15 : uu 15 = .int .i64 (ade s.lo s.hi x y) := h 8 (by decide)
      refine wpAny_one (i := 10) none (by kernel_rfl) rfl rfl rfl (rn_st_25 (S := S5) (o := 0) (ev h5) (ev h14) (hB5.atv 0 rfl) (hB5.atv 1 rfl) hB5.free ?_)
      refine wpAny_one (i := 11) (some 6) (by kernel_rfl) rfl rfl rfl (runs_mva (ev h15) ?_)
      refine wpAny_done (by kernel_rfl) ?_ _
      have hK1 := hK.grew (hB.trans hR)
      have hg1 : Grew w ((w1.setCell ⟨S5, 0, none⟩ (.int .i64 (ad s.lo s.hi x y).1)).setCell ⟨S5, 0 + 1, none⟩ (.int .i64 (ad s.lo s.hi x y).2)) := (((hG.trans (hB.trans hR)).sc (Nat.le_trans hG.size hS5) _ _).sc (Nat.le_trans hG.size hS5) _ _)
      have hB6 := (hB5.set 0 (.int .i64 (ad s.lo s.hi x y).1)).set 1 (.int .i64 (ad s.lo s.hi x y).2)
      have hne : b ≠ S5 := hK1.ne hB5 (by decide)
      have hK2 := (hK1.other S5 0 (.int .i64 (ad s.lo s.hi x y).1) hne).other S5 1 (.int .i64 (ad s.lo s.hi x y).2) hne
      simp only [Act.put, mixA, mixL, cond_true, cond_false, List.setIfInBounds_toArray, List.set_cons_succ, List.set_cons_zero]
      simp only [List.set_cons_succ, List.set_cons_zero] at hB6
      have h5' : uu 5 = .pointer (some ⟨S5, 0, none⟩) := h5
      rw [h5']
      generalize hW : World.setCell (World.setCell w1 _ _) _ _ = W1
      rw [hW] at hK2 hB6 hg1
      clear hW h h5 h5' h14 h15 hB5 hK1 hR k0 k1 x0 x1 hB hK hX hG
      have c0 := hK2.cell 0
      have c1 := hK2.cell 1
      have c2 := hK2.cell 2
      have cf := hK2.free
      have d0 := hB6.cell 0
      have d1 := hB6.cell 1
      simp only [List.getElem?_cons_zero, List.getElem?_cons_succ] at c0 c1 c2 d0 d1
      rw [ha]
      go_wp2
      go_ret
      exact ⟨rfl, hK2, Chg.of_grew hg1 _⟩
  | true =>
    have ha : ade s.lo s.hi x y = 0 := by simp [ade, hv, hg.v]
    have hb : ad s.lo s.hi x y = (cl (s.lo + x), cl (s.hi + y)) := by simp [ad, hv, hg.v]
    have he0 := hg.e0
    have he1 := hg.e1
    have hw : IntKind.i64.wrap (s.ep + 1) = s.ep + 1 := i64_in _ (by omega)
    have hcc : cl (cl (s.lo + x)) = cl (s.lo + x) := cl_cl _
    rw [er_yes hv, offc_yes hv]
    clear hg hv
    go_enter Try.func21, Try.ntmps21
    go_wp2
    generalize hV : World.alloc _ _ = W
    have hK : Blk b (ckc s) 36 W := by subst hV; exact h.grew ((Grew.refl _).alloc _)
    have hX : Blk w.heap.size [.int .i64 x, .int .i64 y] 25 W := by subst hV; exact Blk.new w _ _
    have hG : Grew w W := by subst hV; exact (Grew.refl _).alloc _
    generalize w.heap.size = S3 at hX
    clear hV h
    have k0 : Atv ⟨b, 0, none⟩ (.int .i64 s.lo) W.drew := (hK.grew (Grew.refl _).drw).atv 0 rfl
    have k1 : Atv ⟨b, 1, none⟩ (.int .i64 s.hi) W.drew := (hK.grew (Grew.refl _).drw).atv 1 rfl
    have x0 : Atv ⟨S3, 0, none⟩ (.int .i64 x) W.drew := (hX.grew (Grew.refl _).drw).atv 0 rfl
    have x1 : Atv ⟨S3, 1, none⟩ (.int .i64 y) W.drew := (hX.grew (Grew.refl _).drw).atv 1 rfl
    have hB : Grew W W.drew := (Grew.refl _).drw
    refine wp_sides [8] 10 [some 8, some 9, some 10, some 11, some 12, some 13, some 7, some 14, some 15, some 5] [false, false, false, false, false, true, false, true, true, true, true, true, true, true, true, true, false, false, false, false, false, false, false] [fun v _ => v = .pointer (some ⟨b, 0, none⟩), fun v _ => v = .pointer (some ⟨b, 0, none⟩), fun v _ => v = .pointer (some ⟨b, 0, none⟩), fun v _ => v = .agg #[.int .i64 (s.lo), .int .i64 (s.hi)], fun v _ => v = .agg #[.int .i64 (x), .int .i64 (y)], fun v _ => v = .tuple #[.agg #[.int .i64 ((ad s.lo s.hi x y).1), .int .i64 ((ad s.lo s.hi x y).2)], .int .i64 (ade s.lo s.hi x y)], fun v _ => v = .tuple #[.agg #[.int .i64 ((ad s.lo s.hi x y).1), .int .i64 ((ad s.lo s.hi x y).2)], .int .i64 (ade s.lo s.hi x y)], fun v _ => v = .agg #[.int .i64 ((ad s.lo s.hi x y).1), .int .i64 ((ad s.lo s.hi x y).2)], fun v _ => v = .int .i64 (ade s.lo s.hi x y), fun v w => ∃ S, v = .pointer (some ⟨S, 0, none⟩) ∧ W.heap.size ≤ S ∧ Blk S [.int .i64 (0), .int .i64 (0)] 25 w] (by kernel_rfl) (by kernel_rfl) (by kernel_rfl) (by kernel_rfl) (by kernel_rfl) (fun d _ _ _ _ h => by cases d <;> exact h) rfl ?_ ⟨fun u w hR hd => ⟨.int .i64 (ade s.lo s.hi x y), fun w1 => run_ext (ev (hd.1 rfl)) rfl, rfl⟩, trivial⟩ ⟨?_, ?_, ?_, ?_, ?_, ?_, ?_, ?_, ?_, ?_, trivial⟩ ?_
    · exact ⟨fun _ _ _ _ h => h, fun _ _ _ _ h => h, fun _ _ _ _ h => h, fun _ _ _ _ h => h, fun _ _ _ _ h => h, fun _ _ _ _ h => h, fun _ _ _ _ h => h, fun _ _ _ _ h => h, fun _ _ _ _ h => h, fun _ _ _ hg ⟨S, h1, h2, h3⟩ => ⟨S, h1, h2, h3.grew hg⟩, trivial⟩
    · intro u w hR hd; exact runs_mv (ev rfl) ⟨Grew.refl _, rfl⟩
    · intro u w hR hd; exact rn_nil (ev (hd.1 rfl)) ⟨Grew.refl _, rfl⟩
    · intro u w hR hd; exact rn_fld_36_0 (ev (hd.1 rfl)) ⟨Grew.refl _, rfl⟩
    · intro u w hR hd; exact rn_ld_25 (ev (hd.1 rfl)) (k0.kept hR) (k1.kept hR) ⟨Grew.refl _, rfl⟩
    · intro u w hR hd; exact rn_ld_25 (ev rfl) (x0.kept hR) (x1.kept hR) ⟨Grew.refl _, rfl⟩
    · intro u w hR hd; exact runs_c2 enters_add (ev (hd.1 rfl)) (ev (hd.2.1 rfl)) (callp (fun _ e => e) (add_any _ _ _ _ _))
    · intro u w hR hd; exact runs_mv (ev (hd.1 rfl)) ⟨Grew.refl _, rfl⟩
    · intro u w hR hd; exact rn_ext (ev (hd.1 rfl)) rfl ⟨Grew.refl _, rfl⟩
    · intro u w hR hd; exact rn_ext (ev (hd.1 rfl)) rfl ⟨Grew.refl _, rfl⟩
    · intro u w hR hd; exact rn_alloc_25 ⟨(Grew.refl _).alloc _, ⟨_, rfl, Nat.le_trans hB.size hR.size, heap_alloc_new _ _⟩⟩
    · intro uu w1 hR h
      obtain ⟨S5, h5, hS5, hB5⟩ := h 9 (by decide)
      have h14 : uu 14 = iv (ad s.lo s.hi x y).1 (ad s.lo s.hi x y).2 := h 7 (by decide)
      have h15 : uu 15 = .int .i64 (ade s.lo s.hi x y) := h 8 (by decide)
      refine wpAny_one (i := 10) none (by kernel_rfl) rfl rfl rfl (rn_st_25 (S := S5) (o := 0) (ev h5) (ev h14) (hB5.atv 0 rfl) (hB5.atv 1 rfl) hB5.free ?_)
      refine wpAny_one (i := 11) (some 6) (by kernel_rfl) rfl rfl rfl (runs_mva (ev h15) ?_)
      refine wpAny_done (by kernel_rfl) ?_ _
      have hK1 := hK.grew (hB.trans hR)
      have hg1 : Grew w ((w1.setCell ⟨S5, 0, none⟩ (.int .i64 (ad s.lo s.hi x y).1)).setCell ⟨S5, 0 + 1, none⟩ (.int .i64 (ad s.lo s.hi x y).2)) := (((hG.trans (hB.trans hR)).sc (Nat.le_trans hG.size hS5) _ _).sc (Nat.le_trans hG.size hS5) _ _)
      have hB6 := (hB5.set 0 (.int .i64 (ad s.lo s.hi x y).1)).set 1 (.int .i64 (ad s.lo s.hi x y).2)
      have hne : b ≠ S5 := hK1.ne hB5 (by decide)
      have hK2 := (hK1.other S5 0 (.int .i64 (ad s.lo s.hi x y).1) hne).other S5 1 (.int .i64 (ad s.lo s.hi x y).2) hne
      simp only [Act.put, mixA, mixL, cond_true, cond_false, List.setIfInBounds_toArray, List.set_cons_succ, List.set_cons_zero]
      simp only [List.set_cons_succ, List.set_cons_zero] at hB6
      have h5' : uu 5 = .pointer (some ⟨S5, 0, none⟩) := h5
      rw [h5']
      generalize hW : World.setCell (World.setCell w1 _ _) _ _ = W1
      rw [hW] at hK2 hB6 hg1
      clear hW h h5 h5' h14 h15 hB5 hK1 hR k0 k1 x0 x1 hB hK hX hG
      have c0 := hK2.cell 0
      have c1 := hK2.cell 1
      have c2 := hK2.cell 2
      have cf := hK2.free
      have d0 := hB6.cell 0
      have d1 := hB6.cell 1
      simp only [List.getElem?_cons_zero, List.getElem?_cons_succ] at c0 c1 c2 d0 d1
      rw [ha]
      rw [hb] at d0 d1 hB6
      simp only at d0 d1
      have kl := hK2.lt
      clear ha hb
      go_wp2
      go_ret
      have hK3 := (hK2.set 0 (.int .i64 (cl (s.lo + x)))).set 1 (.int .i64 (cl (s.hi + y)))
      exact ⟨rfl, hK3, ((Chg.of_grew hg1 (fun k => k = b)).then_set ⟨b, 0, none⟩ _ rfl).then_set ⟨b, 1, none⟩ _ rfl⟩
theorem sat_any (b : Nat) (s : Ck) (x y : Int) (w : World) (h : Blk b (ckc s) 36 w) (hg : Cg s 4611686018427387904) :
    Calls Try.prog 22 #[.pointer (some ⟨b, 0, none⟩), iv x y] w fun e w' => e = .returned (.int .i64 (er x y)) ∧ Blk b (ckc (satc s x y)) 36 w' ∧ Chg w w' (fun k => k = b) := by
  cases hv : va x y with
  | false =>
    have ha : ade s.lo s.hi x y = 1 := by simp [ade, hv]
    rw [er_no hv, satc_no hv]
    clear hg hv
    go_enter Try.func22, Try.ntmps22
    go_wp2
    generalize hV : World.alloc _ _ = W
    have hK : Blk b (ckc s) 36 W := by subst hV; exact h.grew ((Grew.refl _).alloc _)
    have hX : Blk w.heap.size [.int .i64 x, .int .i64 y] 25 W := by subst hV; exact Blk.new w _ _
    have hG : Grew w W := by subst hV; exact (Grew.refl _).alloc _
    generalize w.heap.size = S3 at hX
    clear hV h
    have k0 : Atv ⟨b, 0, none⟩ (.int .i64 s.lo) W.drew := (hK.grew (Grew.refl _).drw).atv 0 rfl
    have k1 : Atv ⟨b, 1, none⟩ (.int .i64 s.hi) W.drew := (hK.grew (Grew.refl _).drw).atv 1 rfl
    have x0 : Atv ⟨S3, 0, none⟩ (.int .i64 x) W.drew := (hX.grew (Grew.refl _).drw).atv 0 rfl
    have x1 : Atv ⟨S3, 1, none⟩ (.int .i64 y) W.drew := (hX.grew (Grew.refl _).drw).atv 1 rfl
    have hB : Grew W W.drew := (Grew.refl _).drw
    refine wp_sides [8] 10 [some 8, some 9, some 10, some 11, some 12, some 13, some 7, some 14, some 15, some 5] [false, false, false, false, false, true, false, true, true, true, true, true, true, true, true, true, false, false, false, false, false, false, false, false, false, false, false, false, false, false, false, false] [fun v _ => v = .pointer (some ⟨b, 0, none⟩), fun v _ => v = .pointer (some ⟨b, 0, none⟩), fun v _ => v = .pointer (some ⟨b, 0, none⟩), fun v _ => v = .agg #[.int .i64 (s.lo), .int .i64 (s.hi)], fun v _ => v = .agg #[.int .i64 (x), .int .i64 (y)], fun v _ => v = .tuple #[.agg #[.int .i64 ((ad s.lo s.hi x y).1), .int .i64 ((ad s.lo s.hi x y).2)], .int .i64 (ade s.lo s.hi x y)], fun v _ => v = .tuple #[.agg #[.int .i64 ((ad s.lo s.hi x y).1), .int .i64 ((ad s.lo s.hi x y).2)], .int .i64 (ade s.lo s.hi x y)], fun v _ => v = .agg #[.int .i64 ((ad s.lo s.hi x y).1), .int .i64 ((ad s.lo s.hi x y).2)], fun v _ => v = .int .i64 (ade s.lo s.hi x y), fun v w => ∃ S, v = .pointer (some ⟨S, 0, none⟩) ∧ W.heap.size ≤ S ∧ Blk S [.int .i64 (0), .int .i64 (0)] 25 w] (by kernel_rfl) (by kernel_rfl) (by kernel_rfl) (by kernel_rfl) (by kernel_rfl) (fun d _ _ _ _ h => by cases d <;> exact h) rfl ?_ ⟨fun u w hR hd => ⟨.int .i64 (ade s.lo s.hi x y), fun w1 => run_ext (ev (hd.1 rfl)) rfl, rfl⟩, trivial⟩ ⟨?_, ?_, ?_, ?_, ?_, ?_, ?_, ?_, ?_, ?_, trivial⟩ ?_
    · exact ⟨fun _ _ _ _ h => h, fun _ _ _ _ h => h, fun _ _ _ _ h => h, fun _ _ _ _ h => h, fun _ _ _ _ h => h, fun _ _ _ _ h => h, fun _ _ _ _ h => h, fun _ _ _ _ h => h, fun _ _ _ _ h => h, fun _ _ _ hg ⟨S, h1, h2, h3⟩ => ⟨S, h1, h2, h3.grew hg⟩, trivial⟩
    · intro u w hR hd; exact runs_mv (ev rfl) ⟨Grew.refl _, rfl⟩
    · intro u w hR hd; exact rn_nil (ev (hd.1 rfl)) ⟨Grew.refl _, rfl⟩
    · intro u w hR hd; exact rn_fld_36_0 (ev (hd.1 rfl)) ⟨Grew.refl _, rfl⟩
    · intro u w hR hd; exact rn_ld_25 (ev (hd.1 rfl)) (k0.kept hR) (k1.kept hR) ⟨Grew.refl _, rfl⟩
    · intro u w hR hd; exact rn_ld_25 (ev rfl) (x0.kept hR) (x1.kept hR) ⟨Grew.refl _, rfl⟩
    · intro u w hR hd; exact runs_c2 enters_add (ev (hd.1 rfl)) (ev (hd.2.1 rfl)) (callp (fun _ e => e) (add_any _ _ _ _ _))
    · intro u w hR hd; exact runs_mv (ev (hd.1 rfl)) ⟨Grew.refl _, rfl⟩
    · intro u w hR hd; exact rn_ext (ev (hd.1 rfl)) rfl ⟨Grew.refl _, rfl⟩
    · intro u w hR hd; exact rn_ext (ev (hd.1 rfl)) rfl ⟨Grew.refl _, rfl⟩
    · intro u w hR hd; exact rn_alloc_25 ⟨(Grew.refl _).alloc _, ⟨_, rfl, Nat.le_trans hB.size hR.size, heap_alloc_new _ _⟩⟩
    · intro uu w1 hR h
      obtain ⟨S5, h5, hS5, hB5⟩ := h 9 (by decide)
      have h14 : uu 14 = iv (ad s.lo s.hi x y).1 (ad s.lo s.hi x y).2 := h 7 (by decide)
      have h15 : uu 15 = .int .i64 (ade s.lo s.hi x y) := h 8 (by decide)
      refine wpAny_one (i := 10) none (by kernel_rfl) rfl rfl rfl (rn_st_25 (S := S5) (o := 0) (ev h5) (ev h14) (hB5.atv 0 rfl) (hB5.atv 1 rfl) hB5.free ?_)
      refine wpAny_one (i := 11) (some 6) (by kernel_rfl) rfl rfl rfl (runs_mva (ev h15) ?_)
      refine wpAny_done (by kernel_rfl) ?_ _
      have hK1 := hK.grew (hB.trans hR)
      have hg1 : Grew w ((w1.setCell ⟨S5, 0, none⟩ (.int .i64 (ad s.lo s.hi x y).1)).setCell ⟨S5, 0 + 1, none⟩ (.int .i64 (ad s.lo s.hi x y).2)) := (((hG.trans (hB.trans hR)).sc (Nat.le_trans hG.size hS5) _ _).sc (Nat.le_trans hG.size hS5) _ _)
      have hB6 := (hB5.set 0 (.int .i64 (ad s.lo s.hi x y).1)).set 1 (.int .i64 (ad s.lo s.hi x y).2)
      have hne : b ≠ S5 := hK1.ne hB5 (by decide)
      have hK2 := (hK1.other S5 0 (.int .i64 (ad s.lo s.hi x y).1) hne).other S5 1 (.int .i64 (ad s.lo s.hi x y).2) hne
      simp only [Act.put, mixA, mixL, cond_true, cond_false, List.setIfInBounds_toArray, List.set_cons_succ, List.set_cons_zero]
      simp only [List.set_cons_succ, List.set_cons_zero] at hB6
      have h5' : uu 5 = .pointer (some ⟨S5, 0, none⟩) := h5
      rw [h5']
      generalize hW : World.setCell (World.setCell w1 _ _) _ _ = W1
      rw [hW] at hK2 hB6 hg1
      clear hW h h5 h5' h14 h15 hB5 hK1 hR k0 k1 x0 x1 hB hK hX hG
      have c0 := hK2.cell 0
      have c1 := hK2.cell 1
      have c2 := hK2.cell 2
      have cf := hK2.free
      have d0 := hB6.cell 0
      have d1 := hB6.cell 1
      simp only [List.getElem?_cons_zero, List.getElem?_cons_succ] at c0 c1 c2 d0 d1
      rw [ha]
      go_wp2
      go_ret
      exact ⟨rfl, hK2, Chg.of_grew hg1 _⟩
  | true =>
    have ha : ade s.lo s.hi x y = 0 := by simp [ade, hv, hg.v]
    have hb : ad s.lo s.hi x y = (cl (s.lo + x), cl (s.hi + y)) := by simp [ad, hv, hg.v]
    have he0 := hg.e0
    have he1 := hg.e1
    have hw : IntKind.i64.wrap (s.ep + 1) = s.ep + 1 := i64_in _ (by omega)
    have hcc : cl (cl (s.lo + x)) = cl (s.lo + x) := cl_cl _
    rw [er_yes hv, satc_yes hv]
    clear hg hv
    go_enter Try.func22, Try.ntmps22
    go_wp2
    generalize hV : World.alloc _ _ = W
    have hK : Blk b (ckc s) 36 W := by subst hV; exact h.grew ((Grew.refl _).alloc _)
    have hX : Blk w.heap.size [.int .i64 x, .int .i64 y] 25 W := by subst hV; exact Blk.new w _ _
    have hG : Grew w W := by subst hV; exact (Grew.refl _).alloc _
    generalize w.heap.size = S3 at hX
    clear hV h
    have k0 : Atv ⟨b, 0, none⟩ (.int .i64 s.lo) W.drew := (hK.grew (Grew.refl _).drw).atv 0 rfl
    have k1 : Atv ⟨b, 1, none⟩ (.int .i64 s.hi) W.drew := (hK.grew (Grew.refl _).drw).atv 1 rfl
    have x0 : Atv ⟨S3, 0, none⟩ (.int .i64 x) W.drew := (hX.grew (Grew.refl _).drw).atv 0 rfl
    have x1 : Atv ⟨S3, 1, none⟩ (.int .i64 y) W.drew := (hX.grew (Grew.refl _).drw).atv 1 rfl
    have hB : Grew W W.drew := (Grew.refl _).drw
    refine wp_sides [8] 10 [some 8, some 9, some 10, some 11, some 12, some 13, some 7, some 14, some 15, some 5] [false, false, false, false, false, true, false, true, true, true, true, true, true, true, true, true, false, false, false, false, false, false, false, false, false, false, false, false, false, false, false, false] [fun v _ => v = .pointer (some ⟨b, 0, none⟩), fun v _ => v = .pointer (some ⟨b, 0, none⟩), fun v _ => v = .pointer (some ⟨b, 0, none⟩), fun v _ => v = .agg #[.int .i64 (s.lo), .int .i64 (s.hi)], fun v _ => v = .agg #[.int .i64 (x), .int .i64 (y)], fun v _ => v = .tuple #[.agg #[.int .i64 ((ad s.lo s.hi x y).1), .int .i64 ((ad s.lo s.hi x y).2)], .int .i64 (ade s.lo s.hi x y)], fun v _ => v = .tuple #[.agg #[.int .i64 ((ad s.lo s.hi x y).1), .int .i64 ((ad s.lo s.hi x y).2)], .int .i64 (ade s.lo s.hi x y)], fun v _ => v = .agg #[.int .i64 ((ad s.lo s.hi x y).1), .int .i64 ((ad s.lo s.hi x y).2)], fun v _ => v = .int .i64 (ade s.lo s.hi x y), fun v w => ∃ S, v = .pointer (some ⟨S, 0, none⟩) ∧ W.heap.size ≤ S ∧ Blk S [.int .i64 (0), .int .i64 (0)] 25 w] (by kernel_rfl) (by kernel_rfl) (by kernel_rfl) (by kernel_rfl) (by kernel_rfl) (fun d _ _ _ _ h => by cases d <;> exact h) rfl ?_ ⟨fun u w hR hd => ⟨.int .i64 (ade s.lo s.hi x y), fun w1 => run_ext (ev (hd.1 rfl)) rfl, rfl⟩, trivial⟩ ⟨?_, ?_, ?_, ?_, ?_, ?_, ?_, ?_, ?_, ?_, trivial⟩ ?_
    · exact ⟨fun _ _ _ _ h => h, fun _ _ _ _ h => h, fun _ _ _ _ h => h, fun _ _ _ _ h => h, fun _ _ _ _ h => h, fun _ _ _ _ h => h, fun _ _ _ _ h => h, fun _ _ _ _ h => h, fun _ _ _ _ h => h, fun _ _ _ hg ⟨S, h1, h2, h3⟩ => ⟨S, h1, h2, h3.grew hg⟩, trivial⟩
    · intro u w hR hd; exact runs_mv (ev rfl) ⟨Grew.refl _, rfl⟩
    · intro u w hR hd; exact rn_nil (ev (hd.1 rfl)) ⟨Grew.refl _, rfl⟩
    · intro u w hR hd; exact rn_fld_36_0 (ev (hd.1 rfl)) ⟨Grew.refl _, rfl⟩
    · intro u w hR hd; exact rn_ld_25 (ev (hd.1 rfl)) (k0.kept hR) (k1.kept hR) ⟨Grew.refl _, rfl⟩
    · intro u w hR hd; exact rn_ld_25 (ev rfl) (x0.kept hR) (x1.kept hR) ⟨Grew.refl _, rfl⟩
    · intro u w hR hd; exact runs_c2 enters_add (ev (hd.1 rfl)) (ev (hd.2.1 rfl)) (callp (fun _ e => e) (add_any _ _ _ _ _))
    · intro u w hR hd; exact runs_mv (ev (hd.1 rfl)) ⟨Grew.refl _, rfl⟩
    · intro u w hR hd; exact rn_ext (ev (hd.1 rfl)) rfl ⟨Grew.refl _, rfl⟩
    · intro u w hR hd; exact rn_ext (ev (hd.1 rfl)) rfl ⟨Grew.refl _, rfl⟩
    · intro u w hR hd; exact rn_alloc_25 ⟨(Grew.refl _).alloc _, ⟨_, rfl, Nat.le_trans hB.size hR.size, heap_alloc_new _ _⟩⟩
    · intro uu w1 hR h
      obtain ⟨S5, h5, hS5, hB5⟩ := h 9 (by decide)
      have h14 : uu 14 = iv (ad s.lo s.hi x y).1 (ad s.lo s.hi x y).2 := h 7 (by decide)
      have h15 : uu 15 = .int .i64 (ade s.lo s.hi x y) := h 8 (by decide)
      refine wpAny_one (i := 10) none (by kernel_rfl) rfl rfl rfl (rn_st_25 (S := S5) (o := 0) (ev h5) (ev h14) (hB5.atv 0 rfl) (hB5.atv 1 rfl) hB5.free ?_)
      refine wpAny_one (i := 11) (some 6) (by kernel_rfl) rfl rfl rfl (runs_mva (ev h15) ?_)
      refine wpAny_done (by kernel_rfl) ?_ _
      have hK1 := hK.grew (hB.trans hR)
      have hg1 : Grew w ((w1.setCell ⟨S5, 0, none⟩ (.int .i64 (ad s.lo s.hi x y).1)).setCell ⟨S5, 0 + 1, none⟩ (.int .i64 (ad s.lo s.hi x y).2)) := (((hG.trans (hB.trans hR)).sc (Nat.le_trans hG.size hS5) _ _).sc (Nat.le_trans hG.size hS5) _ _)
      have hB6 := (hB5.set 0 (.int .i64 (ad s.lo s.hi x y).1)).set 1 (.int .i64 (ad s.lo s.hi x y).2)
      have hne : b ≠ S5 := hK1.ne hB5 (by decide)
      have hK2 := (hK1.other S5 0 (.int .i64 (ad s.lo s.hi x y).1) hne).other S5 1 (.int .i64 (ad s.lo s.hi x y).2) hne
      simp only [Act.put, mixA, mixL, cond_true, cond_false, List.setIfInBounds_toArray, List.set_cons_succ, List.set_cons_zero]
      simp only [List.set_cons_succ, List.set_cons_zero] at hB6
      have h5' : uu 5 = .pointer (some ⟨S5, 0, none⟩) := h5
      rw [h5']
      generalize hW : World.setCell (World.setCell w1 _ _) _ _ = W1
      rw [hW] at hK2 hB6 hg1
      clear hW h h5 h5' h14 h15 hB5 hK1 hR k0 k1 x0 x1 hB hK hX hG
      have c0 := hK2.cell 0
      have c1 := hK2.cell 1
      have c2 := hK2.cell 2
      have cf := hK2.free
      have d0 := hB6.cell 0
      have d1 := hB6.cell 1
      simp only [List.getElem?_cons_zero, List.getElem?_cons_succ] at c0 c1 c2 d0 d1
      rw [ha]
      rw [hb] at d0 d1 hB6
      simp only at d0 d1
      have kl := hK2.lt
      clear ha hb
      go_wp2_with (go_at_call 33; (with_reducible refine (at_any _ _).mono ?_); rintro e w9 ⟨rfl, hw9⟩; subst w9)
      go_ret
      have hK3 := ((hK2.set 0 (.int .i64 (cl (s.lo + x)))).set 1 (.int .i64 (cl (s.lo + x)))).set 2 (.int .i64 (s.ep + 1))
      exact ⟨rfl, hK3.grew ((Grew.refl _).alloc _), ((((Chg.of_grew hg1 (fun k => k = b)).then_set ⟨b, 0, none⟩ _ rfl).then_set ⟨b, 1, none⟩ _ rfl).then_set ⟨b, 2, none⟩ _ rfl).trans (Chg.of_grew ((Grew.refl _).alloc _) _)⟩
theorem now_any (b : Nat) (s : Ck) (w : World) (h : Blk b (ckc s) 36 w) :
    Calls Try.prog 18 #[.pointer (some ⟨b, 0, none⟩)] w fun e w' => e = .returned (iv s.lo s.hi) ∧ Grew w w' := by
  have c0 := h.cell 0
  have c1 := h.cell 1
  have c2 := h.cell 2
  have cf := h.free
  have kl := h.lt
  simp only [List.getElem?_cons_zero, List.getElem?_cons_succ] at c0 c1 c2
  clear h
  go_enter Try.func18, Try.ntmps18
  go_wp2
  refine bodyPost_ret (v := iv s.lo s.hi) (by simp [results, Try.results18, go_sem]) rfl ⟨rfl, ?_⟩
  repeat (first | with_reducible exact Grew.refl _ | with_reducible refine Grew.alloc ?_ _ | with_reducible refine Grew.drw ?_ | with_reducible refine Grew.drwN ?_ _ | with_reducible refine Grew.sc ?_ (by first | omega | (simp <;> omega)) _ _)
theorem epoch_any (b : Nat) (s : Ck) (w : World) (h : Blk b (ckc s) 36 w) :
    Calls Try.prog 19 #[.pointer (some ⟨b, 0, none⟩)] w fun e w' => e = .returned (.int .i64 s.ep) ∧ w = w' := by
  have c0 := h.cell 0
  have c1 := h.cell 1
  have c2 := h.cell 2
  have cf := h.free
  have kl := h.lt
  simp only [List.getElem?_cons_zero, List.getElem?_cons_succ] at c0 c1 c2
  clear h
  go_enter Try.func19, Try.ntmps19
  go_wp2
  go_ret
  exact ⟨rfl, rfl⟩
theorem run_any (b : Nat) (s : Ck) (t : Int) (w : World) (h : Blk b (ckc s) 36 w) (hg : Cg s 4611686018427387904) :
    Calls Try.prog 20 #[.pointer (some ⟨b, 0, none⟩), .int .i64 t] w fun e w' => e = .returned (.int .i64 (er t t)) ∧ Blk b (ckc (offc s t t)) 36 w' ∧ Chg w w' (fun k => k = b) := by
  have HK := Lib.hid h
  have HG := Lib.hid hg
  clear h hg
  go_enter Try.func20, Try.ntmps20
  go_wp2_with (go_at_call 21; (with_reducible refine (off_any b s t t _ HK.out HG.out).mono ?_); rintro e w1 ⟨rfl, h1, h2⟩; have H1 := Lib.hid h1; have H2 := Lib.hid h2; clear h1 h2)
  go_ret
  exact ⟨rfl, H1.out, H2.out⟩
theorem restore_ok (x y n : Int) (w : World) (hv : va x y = true) (h0 : 0 ≤ n) (h1 : n ≤ 2147483647) :
    Calls Try.prog 23 #[iv x y, .int .i64 n] w fun e w' => ∃ b, e = .returned (.tuple #[.pointer (some ⟨b, 0, none⟩), .int .i64 0]) ∧ Blk b (ckc ⟨x, y, n⟩) 36 w' ∧ Grew w w' ∧ w.heap.size ≤ b := by
  go_enter Try.func23, Try.ntmps23
  go_wp2_with (go_at_call 31; (with_reducible refine (valid_any _ _ _).mono ?_); rintro e w9 ⟨rfl, hw9⟩; subst w9)
  refine bodyPost_ret (v := .tuple #[.pointer (some ⟨w.heap.size + 1 + 1, 0, none⟩), .int .i64 0]) (by simp [results, Try.results23, go_sem]) rfl ⟨_, rfl, ?_, ?_, by omega⟩
  · have := Blk.new (bx (bx w x y) x y) (ckc ⟨x, y, n⟩) 36
    simpa using this
  · repeat (first | with_reducible exact Grew.refl _ | with_reducible refine Grew.alloc ?_ _ | with_reducible refine Grew.drw ?_ | with_reducible refine Grew.drwN ?_ _ | with_reducible refine Grew.sc ?_ (by first | omega | (simp <;> omega)) _ _)
theorem restore_bad (x y n : Int) (w : World) (hn : (va x y && decide (0 ≤ n ∧ n ≤ 2147483647)) = false) :
    Calls Try.prog 23 #[iv x y, .int .i64 n] w fun e w' => e = .returned (.tuple #[.pointer none, .int .i64 1]) ∧ Grew w w' := by
  cases hv : va x y with
  | false =>
    clear hn
    go_enter Try.func23, Try.ntmps23
    go_wp2_with (go_at_call 31; (with_reducible refine (valid_any _ _ _).mono ?_); rintro e w9 ⟨rfl, hw9⟩; subst w9)
    refine bodyPost_ret (v := .tuple #[.pointer none, .int .i64 1]) (by simp [results, Try.results23, go_sem]) rfl ⟨rfl, ?_⟩
    repeat (first | with_reducible exact Grew.refl _ | with_reducible refine Grew.alloc ?_ _ | with_reducible refine Grew.drw ?_ | with_reducible refine Grew.drwN ?_ _ | with_reducible refine Grew.sc ?_ (by first | omega | (simp <;> omega)) _ _)
  | true =>
    have ht : ¬ (0 ≤ n ∧ n ≤ 2147483647) := fun hc => by rw [hv, Bool.true_and, decide_eq_false_iff_not] at hn; exact hn hc
    clear hn
    go_enter Try.func23, Try.ntmps23
    go_wp2_with (go_at_call 31; (with_reducible refine (valid_any _ _ _).mono ?_); rintro e w9 ⟨rfl, hw9⟩; subst w9)
    all_goals first | (exfalso; omega) | skip
    all_goals
      refine bodyPost_ret (v := .tuple #[.pointer none, .int .i64 1]) (by simp [results, Try.results23, go_sem]) rfl ⟨rfl, ?_⟩
      repeat (first | with_reducible exact Grew.refl _ | with_reducible refine Grew.alloc ?_ _ | with_reducible refine Grew.drw ?_ | with_reducible refine Grew.drwN ?_ _ | with_reducible refine Grew.sc ?_ (by first | omega | (simp <;> omega)) _ _)
/-- The time between two readings. -/
def okA (x y p q : Int) : Bool := va x y && va p q && va (x - p) (y - q)
def agl (x y p q : Int) : Int := if okA x y p q then x - p else 0
def agh (x y p q : Int) : Int := if okA x y p q then y - q else 0
def age (x y p q : Int) : Int := if okA x y p q then 0 else 1
theorem age_any (x y p q : Int) (w : World) :
    Calls Try.prog 15 #[iv x y, iv p q] w fun e w' => e = .returned (.tuple #[iv (agl x y p q) (agh x y p q), .int .i64 (age x y p q)]) ∧ Grew w w' := by
  cases h1 : va x y with
  | false =>
    rw [show agl x y p q = 0 by simp [agl, okA, h1], show agh x y p q = 0 by simp [agh, okA, h1], show age x y p q = 1 by simp [age, okA, h1]]
    go_enter Try.func15, Try.ntmps15
    go_wp2_with (go_at_call 31; (with_reducible refine (valid_any _ _ _).mono ?_); rintro e w9 ⟨rfl, hw9⟩; subst w9)
    refine bodyPost_ret (v := .tuple #[iv 0 0, .int .i64 1]) (by simp [results, Try.results15, go_sem]) rfl ⟨rfl, ?_⟩
    repeat (first | with_reducible exact Grew.refl _ | with_reducible refine Grew.alloc ?_ _ | with_reducible refine Grew.drw ?_ | with_reducible refine Grew.drwN ?_ _ | with_reducible refine Grew.sc ?_ (by first | omega | (simp <;> omega)) _ _)
  | true =>
    cases h2 : va p q with
    | false =>
      rw [show agl x y p q = 0 by simp [agl, okA, h2], show agh x y p q = 0 by simp [agh, okA, h2], show age x y p q = 1 by simp [age, okA, h2]]
      go_enter Try.func15, Try.ntmps15
      go_wp2_with (go_at_call 31; (with_reducible refine (valid_any _ _ _).mono ?_); rintro e w9 ⟨rfl, hw9⟩; subst w9)
      refine bodyPost_ret (v := .tuple #[iv 0 0, .int .i64 1]) (by simp [results, Try.results15, go_sem]) rfl ⟨rfl, ?_⟩
      repeat (first | with_reducible exact Grew.refl _ | with_reducible refine Grew.alloc ?_ _ | with_reducible refine Grew.drw ?_ | with_reducible refine Grew.drwN ?_ _ | with_reducible refine Grew.sc ?_ (by first | omega | (simp <;> omega)) _ _)
    | true =>
      have hw1 : IntKind.i64.wrap (x - p) = x - p := i64_in _ (by have := va_iff.1 h1; have := va_iff.1 h2; omega)
      have hw2 : IntKind.i64.wrap (y - q) = y - q := i64_in _ (by have := va_iff.1 h1; have := va_iff.1 h2; omega)
      cases h3 : va (x - p) (y - q) with
      | false =>
        rw [show agl x y p q = 0 by simp [agl, okA, h3], show agh x y p q = 0 by simp [agh, okA, h3], show age x y p q = 1 by simp [age, okA, h3]]
        go_enter Try.func15, Try.ntmps15
        go_wp2_with (go_at_call 31; (with_reducible refine (valid_any _ _ _).mono ?_); rintro e w9 ⟨rfl, hw9⟩; subst w9)
        refine bodyPost_ret (v := .tuple #[iv 0 0, .int .i64 1]) (by simp [results, Try.results15, go_sem]) rfl ⟨rfl, ?_⟩
        repeat (first | with_reducible exact Grew.refl _ | with_reducible refine Grew.alloc ?_ _ | with_reducible refine Grew.drw ?_ | with_reducible refine Grew.drwN ?_ _ | with_reducible refine Grew.sc ?_ (by first | omega | (simp <;> omega)) _ _)
      | true =>
        rw [show agl x y p q = x - p by simp [agl, okA, h1, h2, h3], show agh x y p q = y - q by simp [agh, okA, h1, h2, h3], show age x y p q = 0 by simp [age, okA, h1, h2, h3]]
        go_enter Try.func15, Try.ntmps15
        go_wp2_with (go_at_call 31; (with_reducible refine (valid_any _ _ _).mono ?_); rintro e w9 ⟨rfl, hw9⟩; subst w9)
        refine bodyPost_ret (v := .tuple #[iv (x - p) (y - q), .int .i64 0]) (by simp [results, Try.results15, go_sem]) rfl ⟨rfl, ?_⟩
        repeat (first | with_reducible exact Grew.refl _ | with_reducible refine Grew.alloc ?_ _ | with_reducible refine Grew.drw ?_ | with_reducible refine Grew.drwN ?_ _ | with_reducible refine Grew.sc ?_ (by first | omega | (simp <;> omega)) _ _)
theorem rage_any (x y p q : Int) (w : World) :
    Calls Try.prog 16 #[iv x y, iv p q] w fun e w' => e = .returned (.tuple #[iv (agl x y p q) (agh x y p q), .int .i64 (age x y p q)]) ∧ Grew w w' := by
  cases h1 : va x y with
  | false =>
    rw [show agl x y p q = 0 by simp [agl, okA, h1], show agh x y p q = 0 by simp [agh, okA, h1], show age x y p q = 1 by simp [age, okA, h1]]
    go_enter Try.func16, Try.ntmps16
    go_wp2_with (go_at_call 24; (with_reducible refine (rvalid_any _ _ _).mono ?_); rintro e w9 ⟨rfl, hw9⟩; subst w9)
    refine bodyPost_ret (v := .tuple #[iv 0 0, .int .i64 1]) (by simp [results, Try.results16, go_sem]) rfl ⟨rfl, ?_⟩
    repeat (first | with_reducible exact Grew.refl _ | with_reducible refine Grew.alloc ?_ _ | with_reducible refine Grew.drw ?_ | with_reducible refine Grew.drwN ?_ _ | with_reducible refine Grew.sc ?_ (by first | omega | (simp <;> omega)) _ _)
  | true =>
    cases h2 : va p q with
    | false =>
      rw [show agl x y p q = 0 by simp [agl, okA, h2], show agh x y p q = 0 by simp [agh, okA, h2], show age x y p q = 1 by simp [age, okA, h2]]
      go_enter Try.func16, Try.ntmps16
      go_wp2_with (go_at_call 24; (with_reducible refine (rvalid_any _ _ _).mono ?_); rintro e w9 ⟨rfl, hw9⟩; subst w9)
      refine bodyPost_ret (v := .tuple #[iv 0 0, .int .i64 1]) (by simp [results, Try.results16, go_sem]) rfl ⟨rfl, ?_⟩
      repeat (first | with_reducible exact Grew.refl _ | with_reducible refine Grew.alloc ?_ _ | with_reducible refine Grew.drw ?_ | with_reducible refine Grew.drwN ?_ _ | with_reducible refine Grew.sc ?_ (by first | omega | (simp <;> omega)) _ _)
    | true =>
      have hw1 : IntKind.i64.wrap (x - p) = x - p := i64_in _ (by have := va_iff.1 h1; have := va_iff.1 h2; omega)
      have hw2 : IntKind.i64.wrap (y - q) = y - q := i64_in _ (by have := va_iff.1 h1; have := va_iff.1 h2; omega)
      cases h3 : va (x - p) (y - q) with
      | false =>
        rw [show agl x y p q = 0 by simp [agl, okA, h3], show agh x y p q = 0 by simp [agh, okA, h3], show age x y p q = 1 by simp [age, okA, h3]]
        go_enter Try.func16, Try.ntmps16
        go_wp2_with (go_at_call 24; (with_reducible refine (rvalid_any _ _ _).mono ?_); rintro e w9 ⟨rfl, hw9⟩; subst w9)
        refine bodyPost_ret (v := .tuple #[iv 0 0, .int .i64 1]) (by simp [results, Try.results16, go_sem]) rfl ⟨rfl, ?_⟩
        repeat (first | with_reducible exact Grew.refl _ | with_reducible refine Grew.alloc ?_ _ | with_reducible refine Grew.drw ?_ | with_reducible refine Grew.drwN ?_ _ | with_reducible refine Grew.sc ?_ (by first | omega | (simp <;> omega)) _ _)
      | true =>
        rw [show agl x y p q = x - p by simp [agl, okA, h1, h2, h3], show agh x y p q = y - q by simp [agh, okA, h1, h2, h3], show age x y p q = 0 by simp [age, okA, h1, h2, h3]]
        go_enter Try.func16, Try.ntmps16
        go_wp2_with (go_at_call 24; (with_reducible refine (rvalid_any _ _ _).mono ?_); rintro e w9 ⟨rfl, hw9⟩; subst w9)
        refine bodyPost_ret (v := .tuple #[iv (x - p) (y - q), .int .i64 0]) (by simp [results, Try.results16, go_sem]) rfl ⟨rfl, ?_⟩
        repeat (first | with_reducible exact Grew.refl _ | with_reducible refine Grew.alloc ?_ _ | with_reducible refine Grew.drw ?_ | with_reducible refine Grew.drwN ?_ _ | with_reducible refine Grew.sc ?_ (by first | omega | (simp <;> omega)) _ _)
end Go.Proofs.Yteeecehfbmeohaa
