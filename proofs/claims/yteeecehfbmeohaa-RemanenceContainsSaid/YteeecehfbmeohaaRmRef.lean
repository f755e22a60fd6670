/-
  CONTRACTS OF LAYER 9's REFERENCE and of the statements' own conversion.
-/
import Derived.Test.YteeecehfbmeohaaRmRefOps
namespace Go.Proofs.Yteeecehfbmeohaa
open Go Go.RowKit Go.IntWalk
set_option linter.unusedSimpArgs false
set_option maxRecDepth 8000

theorem rright_any (x y : Int) (w : World) : Calls Try.prog 17 #[iv x y] w fun e w' => e = .returned (.bool (okR x y)) ∧ Grew w w' := by
  go_enter Try.func17, Try.ntmps17
  go_wp2
  generalize hV : World.alloc _ _ = W
  have hK : Blk w.heap.size [.int .i64 x, .int .i64 y] 23 W := by subst hV; exact Blk.new w _ _
  have hG : Grew w W := by subst hV; exact (Grew.refl _).alloc _
  generalize w.heap.size = S at hK
  clear hV
  have c0 : Atv ⟨S, 0, none⟩ (.int .i64 x) W.drew := (hK.grew (Grew.refl _).drw).atv 0 rfl
  have c1 : Atv ⟨S, 1, none⟩ (.int .i64 y) W.drew := (hK.grew (Grew.refl _).drw).atv 1 rfl
  refine wp_still [some 3, some 4, some 5, some 6, some 7, some 8, some 9, some 10, some 11, some 12, some 13, some 14, some 15, some 16, some 17, some 18, some 19, some 20, some 21, some 2] [false, false, true, true, true, true, true, true, true, true, true, true, true, true, true, true, true, true, true, true, true, true] [fun v _ => v = .pointer (some ⟨S, 0, none⟩), fun v _ => v = .int .i64 (x), fun v _ => v = .bool (decide ((0) ≤ (x))), fun v _ => v = .bool (decide ((0) ≤ (x))), fun v _ => (decide ((0) ≤ (x))) = true → v = .pointer (some ⟨S, 0, none⟩), fun v _ => (decide ((0) ≤ (x))) = true → v = .int .i64 (x), fun v _ => (decide ((0) ≤ (x))) = true → v = .bool (decide ((x) ≤ (500))), fun v _ => v = .bool ((decide ((0) ≤ (x))) && (decide ((x) ≤ (500)))), fun v _ => v = .bool ((decide ((0) ≤ (x))) && (decide ((x) ≤ (500)))), fun v _ => ((decide ((0) ≤ (x))) && (decide ((x) ≤ (500)))) = true → v = .pointer (some ⟨S, 1, none⟩), fun v _ => ((decide ((0) ≤ (x))) && (decide ((x) ≤ (500)))) = true → v = .int .i64 (y), fun v _ => ((decide ((0) ≤ (x))) && (decide ((x) ≤ (500)))) = true → v = .bool (decide ((1) ≤ (y))), fun v _ => v = .bool (((decide ((0) ≤ (x))) && (decide ((x) ≤ (500)))) && (decide ((1) ≤ (y)))), fun v _ => v = .bool (((decide ((0) ≤ (x))) && (decide ((x) ≤ (500)))) && (decide ((1) ≤ (y)))), fun v _ => (((decide ((0) ≤ (x))) && (decide ((x) ≤ (500)))) && (decide ((1) ≤ (y)))) = true → v = .pointer (some ⟨S, 1, none⟩), fun v _ => (((decide ((0) ≤ (x))) && (decide ((x) ≤ (500)))) && (decide ((1) ≤ (y)))) = true → v = .int .i64 (y), fun v _ => (((decide ((0) ≤ (x))) && (decide ((x) ≤ (500)))) && (decide ((1) ≤ (y)))) = true → v = .int .i64 (1099511627776), fun v _ => (((decide ((0) ≤ (x))) && (decide ((x) ≤ (500)))) && (decide ((1) ≤ (y)))) = true → v = .bool (decide ((y) ≤ (1099511627776))), fun v _ => v = .bool ((((decide ((0) ≤ (x))) && (decide ((x) ≤ (500)))) && (decide ((1) ≤ (y)))) && (decide ((y) ≤ (1099511627776)))), fun v _ => v = .bool ((((decide ((0) ≤ (x))) && (decide ((x) ≤ (500)))) && (decide ((1) ≤ (y)))) && (decide ((y) ≤ (1099511627776))))] (by kernel_rfl) (by kernel_rfl) rfl ⟨?_, ?_, ?_, ?_, ?_, ?_, ?_, ?_, ?_, ?_, ?_, ?_, ?_, ?_, ?_, ?_, ?_, ?_, ?_, ?_, trivial⟩ ?_
  · intro u w hR hd; exact rn_fld_23_0 (ev rfl) ⟨rfl, rfl⟩
  · intro u w hR hd; exact rn_ld_3 (ev (hd.1 rfl)) (c0.kept hR) ⟨rfl, rfl⟩
  · intro u w hR hd; exact rn_geq_3 (ev (hd.1 rfl)) rfl ⟨rfl, rfl⟩
  · intro u w hR hd; exact runs_mv (ev (hd.1 rfl)) ⟨rfl, rfl⟩
  · intro u w hR hd; exact ⟨fun hg => have hG : (decide ((0) ≤ (x))) = true := Value.bool.inj ((hd.1 rfl).symm.trans hg); rn_fld_23_0 (ev rfl) ⟨rfl, fun _ => rfl⟩, fun hn => fun hG => absurd ((hd.1 rfl).trans (congrArg Value.bool hG)) hn⟩
  · intro u w hR hd; exact ⟨fun hg => have hG : (decide ((0) ≤ (x))) = true := Value.bool.inj ((hd.2.1 rfl).symm.trans hg); rn_ld_3 (ev ((hd.1 rfl) hG)) (c0.kept hR) ⟨rfl, fun _ => rfl⟩, fun hn => fun hG => absurd ((hd.2.1 rfl).trans (congrArg Value.bool hG)) hn⟩
  · intro u w hR hd; exact ⟨fun hg => have hG : (decide ((0) ≤ (x))) = true := Value.bool.inj ((hd.2.1 rfl).symm.trans hg); rn_leq_3 (ev ((hd.1 rfl) hG)) rfl ⟨rfl, fun _ => rfl⟩, fun hn => fun hG => absurd ((hd.2.1 rfl).trans (congrArg Value.bool hG)) hn⟩
  · intro u w hR hd; exact runs_an (ev (hd.1 rfl)) (fun hb => ev ((hd.2.1 rfl) hb)) ⟨rfl, rfl⟩
  · intro u w hR hd; exact runs_mv (ev (hd.1 rfl)) ⟨rfl, rfl⟩
  · intro u w hR hd; exact ⟨fun hg => have hG : ((decide ((0) ≤ (x))) && (decide ((x) ≤ (500)))) = true := Value.bool.inj ((hd.1 rfl).symm.trans hg); rn_fld_23_1 (ev rfl) ⟨rfl, fun _ => rfl⟩, fun hn => fun hG => absurd ((hd.1 rfl).trans (congrArg Value.bool hG)) hn⟩
  · intro u w hR hd; exact ⟨fun hg => have hG : ((decide ((0) ≤ (x))) && (decide ((x) ≤ (500)))) = true := Value.bool.inj ((hd.2.1 rfl).symm.trans hg); rn_ld_2 (ev ((hd.1 rfl) hG)) (c1.kept hR) ⟨rfl, fun _ => rfl⟩, fun hn => fun hG => absurd ((hd.2.1 rfl).trans (congrArg Value.bool hG)) hn⟩
  · intro u w hR hd; exact ⟨fun hg => have hG : ((decide ((0) ≤ (x))) && (decide ((x) ≤ (500)))) = true := Value.bool.inj ((hd.2.1 rfl).symm.trans hg); rn_geq_2 (ev ((hd.1 rfl) hG)) rfl ⟨rfl, fun _ => rfl⟩, fun hn => fun hG => absurd ((hd.2.1 rfl).trans (congrArg Value.bool hG)) hn⟩
  · intro u w hR hd; exact runs_an (ev (hd.1 rfl)) (fun hb => ev ((hd.2.1 rfl) hb)) ⟨rfl, rfl⟩
  · intro u w hR hd; exact runs_mv (ev (hd.1 rfl)) ⟨rfl, rfl⟩
  · intro u w hR hd; exact ⟨fun hg => have hG : (((decide ((0) ≤ (x))) && (decide ((x) ≤ (500)))) && (decide ((1) ≤ (y)))) = true := Value.bool.inj ((hd.1 rfl).symm.trans hg); rn_fld_23_1 (ev rfl) ⟨rfl, fun _ => rfl⟩, fun hn => fun hG => absurd ((hd.1 rfl).trans (congrArg Value.bool hG)) hn⟩
  · intro u w hR hd; exact ⟨fun hg => have hG : (((decide ((0) ≤ (x))) && (decide ((x) ≤ (500)))) && (decide ((1) ≤ (y)))) = true := Value.bool.inj ((hd.2.1 rfl).symm.trans hg); rn_ld_2 (ev ((hd.1 rfl) hG)) (c1.kept hR) ⟨rfl, fun _ => rfl⟩, fun hn => fun hG => absurd ((hd.2.1 rfl).trans (congrArg Value.bool hG)) hn⟩
  · intro u w hR hd; exact ⟨fun hg => have hG : (((decide ((0) ≤ (x))) && (decide ((x) ≤ (500)))) && (decide ((1) ≤ (y)))) = true := Value.bool.inj ((hd.1 rfl).symm.trans hg); runs_c0 enters_rmost  (callp (fun _ e _ => e) (rmost_any _)), fun hn => fun hG => absurd ((hd.1 rfl).trans (congrArg Value.bool hG)) hn⟩
  · intro u w hR hd; exact ⟨fun hg => have hG : (((decide ((0) ≤ (x))) && (decide ((x) ≤ (500)))) && (decide ((1) ≤ (y)))) = true := Value.bool.inj ((hd.2.2.1 rfl).symm.trans hg); rn_leq_2 (ev ((hd.1 rfl) hG)) (ev ((hd.2.1 rfl) hG)) ⟨rfl, fun _ => rfl⟩, fun hn => fun hG => absurd ((hd.2.2.1 rfl).trans (congrArg Value.bool hG)) hn⟩
  · intro u w hR hd; exact runs_an (ev (hd.1 rfl)) (fun hb => ev ((hd.2.1 rfl) hb)) ⟨rfl, rfl⟩
  · intro u w hR hd; exact runs_mva (ev (hd.1 rfl)) ⟨rfl, rfl⟩
  · intro u hp
    have he : u 2 = .bool ((((decide ((0) ≤ (x))) && (decide ((x) ≤ (500)))) && (decide ((1) ≤ (y)))) && (decide ((y) ≤ (1099511627776)))) := hp 19 (by decide)
    simp only [mixA, mixL, cond_true, cond_false]
    rw [he]
    clear hp he c0 c1 hK
    go_wp2
    go_ret
    exact ⟨ret_bool (by rw [Bool.eq_iff_iff, okR_iff]; simp; omega), hG.drw⟩
theorem own_any (x y : Int) (w : World) : Calls Try.prog 11 #[iv x y] w fun e w' => e = .returned (iv x y) ∧ Grew w w' := by
  go_enter Try.func11, Try.ntmps11
  go_wp2
  refine bodyPost_ret (v := iv x y) (by simp [results, Try.results11, go_sem]) rfl ⟨rfl, ?_⟩
  repeat (first | with_reducible exact Grew.refl _ | with_reducible refine Grew.alloc ?_ _ | with_reducible refine Grew.drw ?_ | with_reducible refine Grew.drwN ?_ _ | with_reducible refine Grew.sc ?_ (by first | omega | (simp <;> omega)) _ _)
theorem roff_any (s : Ck) (x y : Int) (w : World) (hg : Cg s 4611686018427387904) :
    Calls Try.prog 29 #[ckv s, iv x y] w fun e w' => e = .returned (.tuple #[ckv (offc s x y), .int .i64 (er x y)]) ∧ Grew w w' := by
  cases hv : va x y with
  | false =>
    have ha : ade s.lo s.hi x y = 1 := by simp [ade, hv]
    rw [er_no hv, offc_no hv]
    clear hg hv
    go_enter Try.func29, Try.ntmps29
    go_wp2_with (go_at_call 35; generalize hW : World.alloc _ _ = V; have p : Blk (w.heap.size) [.int .i64 s.lo, .int .i64 s.hi, .int .i64 s.ep] 38 V := (by subst hW; exact Blk.grew (w := (w.alloc (.cells #[.int .i64 s.lo, .int .i64 s.hi, .int .i64 s.ep] 38))) (by simpa using Blk.new w [.int .i64 s.lo, .int .i64 s.hi, .int .i64 s.ep] 38) (by repeat (first | with_reducible exact Grew.refl _ | with_reducible refine Grew.alloc ?_ _ | with_reducible refine Grew.drw ?_ | with_reducible refine Grew.drwN ?_ _ | with_reducible refine Grew.sc ?_ (by first | omega | (simp <;> omega)) _ _))); have q : Blk (w.heap.size + 1 + 1) [.int .i64 0, .int .i64 0, .int .i64 0] 38 V := (by subst hW; exact Blk.grew (w := (((w.alloc (.cells #[.int .i64 s.lo, .int .i64 s.hi, .int .i64 s.ep] 38)).alloc (.cells #[.int .i64 x, .int .i64 y] 25)).alloc (.cells #[.int .i64 0, .int .i64 0, .int .i64 0] 38))) (by simpa using Blk.new ((w.alloc (.cells #[.int .i64 s.lo, .int .i64 s.hi, .int .i64 s.ep] 38)).alloc (.cells #[.int .i64 x, .int .i64 y] 25)) [.int .i64 0, .int .i64 0, .int .i64 0] 38) (by repeat (first | with_reducible exact Grew.refl _ | with_reducible refine Grew.alloc ?_ _ | with_reducible refine Grew.drw ?_ | with_reducible refine Grew.drwN ?_ _ | with_reducible refine Grew.sc ?_ (by first | omega | (simp <;> omega)) _ _))); have hV : Grew w V := (by subst hW; repeat (first | with_reducible exact Grew.refl _ | with_reducible refine Grew.alloc ?_ _ | with_reducible refine Grew.drw ?_ | with_reducible refine Grew.drwN ?_ _ | with_reducible refine Grew.sc ?_ (by first | omega | (simp <;> omega)) _ _)); clear hW; (with_reducible refine (radd_any s.lo s.hi x y _).mono ?_); rintro e w1 ⟨rfl, g1⟩; replace p := p.grew g1; replace q := q.grew g1; simp only [ha]; have HG := Lib.hid (hV.trans g1); clear hV g1; have p0 := p.cell 0; have p1 := p.cell 1; have p2 := p.cell 2; have pf := p.free; have pl := p.lt; simp only [List.getElem?_cons_zero, List.getElem?_cons_succ] at p0 p1 p2; have q0 := q.cell 0; have q1 := q.cell 1; have q2 := q.cell 2; have qf := q.free; have ql := q.lt; simp only [List.getElem?_cons_zero, List.getElem?_cons_succ] at q0 q1 q2; clear p; clear q)
    refine rn_ret_c38_t Try.results29 (S0 := w.heap.size + 1 + 1) (v0_0 := .int .i64 (s.lo)) (v0_1 := .int .i64 (s.hi)) (v0_2 := .int .i64 (s.ep)) (v1 := .int .i64 1) rfl (by go_simp) (by go_simp) (by go_simp) rfl ⟨rfl, ?_⟩
    repeat (first | with_reducible exact HG.out | with_reducible exact Grew.refl _ | with_reducible refine Grew.alloc ?_ _ | with_reducible refine Grew.drw ?_ | with_reducible refine Grew.drwN ?_ _ | with_reducible refine Grew.sc ?_ (by first | omega | (simp <;> omega)) _ _)
  | true =>
    have ha : ade s.lo s.hi x y = 0 := by simp [ade, hv, hg.v]
    have hb : ad s.lo s.hi x y = (cl (s.lo + x), cl (s.hi + y)) := by simp [ad, hv, hg.v]
    rw [er_yes hv, offc_yes hv]
    clear hg hv
    go_enter Try.func29, Try.ntmps29
    go_wp2_with (go_at_call 35; generalize hW : World.alloc _ _ = V; have p : Blk (w.heap.size) [.int .i64 s.lo, .int .i64 s.hi, .int .i64 s.ep] 38 V := (by subst hW; exact Blk.grew (w := (w.alloc (.cells #[.int .i64 s.lo, .int .i64 s.hi, .int .i64 s.ep] 38))) (by simpa using Blk.new w [.int .i64 s.lo, .int .i64 s.hi, .int .i64 s.ep] 38) (by repeat (first | with_reducible exact Grew.refl _ | with_reducible refine Grew.alloc ?_ _ | with_reducible refine Grew.drw ?_ | with_reducible refine Grew.drwN ?_ _ | with_reducible refine Grew.sc ?_ (by first | omega | (simp <;> omega)) _ _))); have q : Blk (w.heap.size + 1 + 1) [.int .i64 0, .int .i64 0, .int .i64 0] 38 V := (by subst hW; exact Blk.grew (w := (((w.alloc (.cells #[.int .i64 s.lo, .int .i64 s.hi, .int .i64 s.ep] 38)).alloc (.cells #[.int .i64 x, .int .i64 y] 25)).alloc (.cells #[.int .i64 0, .int .i64 0, .int .i64 0] 38))) (by simpa using Blk.new ((w.alloc (.cells #[.int .i64 s.lo, .int .i64 s.hi, .int .i64 s.ep] 38)).alloc (.cells #[.int .i64 x, .int .i64 y] 25)) [.int .i64 0, .int .i64 0, .int .i64 0] 38) (by repeat (first | with_reducible exact Grew.refl _ | with_reducible refine Grew.alloc ?_ _ | with_reducible refine Grew.drw ?_ | with_reducible refine Grew.drwN ?_ _ | with_reducible refine Grew.sc ?_ (by first | omega | (simp <;> omega)) _ _))); have hV : Grew w V := (by subst hW; repeat (first | with_reducible exact Grew.refl _ | with_reducible refine Grew.alloc ?_ _ | with_reducible refine Grew.drw ?_ | with_reducible refine Grew.drwN ?_ _ | with_reducible refine Grew.sc ?_ (by first | omega | (simp <;> omega)) _ _)); clear hW; (with_reducible refine (radd_any s.lo s.hi x y _).mono ?_); rintro e w1 ⟨rfl, g1⟩; replace p := p.grew g1; replace q := q.grew g1; simp only [ha, hb]; have HG := Lib.hid (hV.trans g1); clear hV g1; have p0 := p.cell 0; have p1 := p.cell 1; have p2 := p.cell 2; have pf := p.free; have pl := p.lt; simp only [List.getElem?_cons_zero, List.getElem?_cons_succ] at p0 p1 p2; have q0 := q.cell 0; have q1 := q.cell 1; have q2 := q.cell 2; have qf := q.free; have ql := q.lt; simp only [List.getElem?_cons_zero, List.getElem?_cons_succ] at q0 q1 q2; clear p; clear q)
    refine rn_ret_c38_t Try.results29 (S0 := w.heap.size + 1 + 1) (v0_0 := .int .i64 (cl (s.lo + x))) (v0_1 := .int .i64 (cl (s.hi + y))) (v0_2 := .int .i64 (s.ep)) (v1 := .int .i64 0) rfl (by go_simp) (by go_simp) (by go_simp) rfl ⟨rfl, ?_⟩
    repeat (first | with_reducible exact HG.out | with_reducible exact Grew.refl _ | with_reducible refine Grew.alloc ?_ _ | with_reducible refine Grew.drw ?_ | with_reducible refine Grew.drwN ?_ _ | with_reducible refine Grew.sc ?_ (by first | omega | (simp <;> omega)) _ _)
theorem rsat_any (s : Ck) (x y : Int) (w : World) (hg : Cg s 4611686018427387904) :
    Calls Try.prog 30 #[ckv s, iv x y] w fun e w' => e = .returned (.tuple #[ckv (satc s x y), .int .i64 (er x y)]) ∧ Grew w w' := by
  cases hv : va x y with
  | false =>
    rw [er_no hv, satc_no hv]
    clear hg
    go_enter Try.func30, Try.ntmps30
    go_wp2_with (first
      | (go_at_call 24; (with_reducible refine (rvalid_any _ _ _).mono ?_); rintro e w9 ⟨rfl, hw9⟩; subst w9)
      | (go_at_call 27; (with_reducible refine (rclamp_any _ _).mono ?_); rintro e w9 ⟨rfl, hw9⟩; subst w9))
    refine bodyPost_ret (v := .tuple #[ckv s, .int .i64 1]) (by simp [results, Try.results30, go_sem]) rfl ⟨rfl, ?_⟩
    repeat (first | with_reducible exact Grew.refl _ | with_reducible refine Grew.alloc ?_ _ | with_reducible refine Grew.drw ?_ | with_reducible refine Grew.drwN ?_ _ | with_reducible refine Grew.sc ?_ (by first | omega | (simp <;> omega)) _ _)
  | true =>
    have he0 := hg.e0
    have he1 := hg.e1
    have hw : IntKind.i64.wrap (s.ep + 1) = s.ep + 1 := i64_in _ (by omega)
    have hw2 : IntKind.i64.wrap (s.lo + x) = s.lo + x := i64_in _ (by have := va_iff.1 hv; have := va_iff.1 hg.v; omega)
    rw [er_yes hv, satc_yes hv]
    clear hg
    go_enter Try.func30, Try.ntmps30
    go_wp2_with (first
      | (go_at_call 24; (with_reducible refine (rvalid_any _ _ _).mono ?_); rintro e w9 ⟨rfl, hw9⟩; subst w9)
      | (go_at_call 27; (with_reducible refine (rclamp_any _ _).mono ?_); rintro e w9 ⟨rfl, hw9⟩; subst w9))
    refine bodyPost_ret (v := .tuple #[ckv ⟨cl (s.lo + x), cl (s.lo + x), s.ep + 1⟩, .int .i64 0]) (by simp [results, Try.results30, go_sem]) rfl ⟨rfl, ?_⟩
    repeat (first | with_reducible exact Grew.refl _ | with_reducible refine Grew.alloc ?_ _ | with_reducible refine Grew.drw ?_ | with_reducible refine Grew.drwN ?_ _ | with_reducible refine Grew.sc ?_ (by first | omega | (simp <;> omega)) _ _)
theorem rrun_any (s : Ck) (t : Int) (w : World) (hg : Cg s 4611686018427387904) :
    Calls Try.prog 28 #[ckv s, .int .i64 t] w fun e w' => e = .returned (.tuple #[ckv (offc s t t), .int .i64 (er t t)]) ∧ Grew w w' := by
  cases hv : va t t with
  | false =>
    have ht : ¬ (0 ≤ t ∧ t ≤ 1099511627776) := fun hc => by rw [va_self.2 hc] at hv; cases hv
    rw [er_no hv, offc_no hv]
    clear hg hv
    go_enter Try.func28, Try.ntmps28
    go_wp2_with (go_at_call 26; (with_reducible refine (rmost_any _).mono ?_); rintro e w9 ⟨rfl, hw9⟩; subst w9)
    all_goals first | (exfalso; omega) | skip
    all_goals
      refine bodyPost_ret (v := .tuple #[ckv s, .int .i64 1]) (by simp [results, Try.results28, go_sem]) rfl ⟨rfl, ?_⟩
      repeat (first | with_reducible exact Grew.refl _ | with_reducible refine Grew.alloc ?_ _ | with_reducible refine Grew.drw ?_ | with_reducible refine Grew.drwN ?_ _ | with_reducible refine Grew.sc ?_ (by first | omega | (simp <;> omega)) _ _)
  | true =>
    have HF : Hid (∀ W : World, Calls Try.prog 29 #[ckv s, iv t t] W fun e w' => e = .returned (.tuple #[ckv (offc s t t), .int .i64 (er t t)]) ∧ Grew W w') := Lib.hid fun W => roff_any s t t W hg
    have ht := va_self.1 hv
    clear hg hv
    generalize offc s t t = s' at HF ⊢
    generalize er t t = c at HF ⊢
    obtain ⟨l', h', e'⟩ := s'
    go_enter Try.func28, Try.ntmps28
    go_wp2_with (first
      | (go_at_call 26; (with_reducible refine (rmost_any _).mono ?_); rintro e w9 ⟨rfl, hw9⟩; subst w9)
      | (go_at_call 29; generalize hW : World.alloc _ _ = V; have p : Blk (w.heap.size) [.int .i64 s.lo, .int .i64 s.hi, .int .i64 s.ep] 38 V := (by subst hW; exact Blk.grew (w := (w.alloc (.cells #[.int .i64 s.lo, .int .i64 s.hi, .int .i64 s.ep] 38))) (by simpa using Blk.new w [.int .i64 s.lo, .int .i64 s.hi, .int .i64 s.ep] 38) (by repeat (first | with_reducible exact Grew.refl _ | with_reducible refine Grew.alloc ?_ _ | with_reducible refine Grew.drw ?_ | with_reducible refine Grew.drwN ?_ _ | with_reducible refine Grew.sc ?_ (by first | omega | (simp <;> omega)) _ _))); have q : Blk (w.heap.size + 1) [.int .i64 0, .int .i64 0, .int .i64 0] 38 V := (by subst hW; exact Blk.grew (w := ((w.alloc (.cells #[.int .i64 s.lo, .int .i64 s.hi, .int .i64 s.ep] 38)).alloc (.cells #[.int .i64 0, .int .i64 0, .int .i64 0] 38))) (by simpa using Blk.new (w.alloc (.cells #[.int .i64 s.lo, .int .i64 s.hi, .int .i64 s.ep] 38)) [.int .i64 0, .int .i64 0, .int .i64 0] 38) (by repeat (first | with_reducible exact Grew.refl _ | with_reducible refine Grew.alloc ?_ _ | with_reducible refine Grew.drw ?_ | with_reducible refine Grew.drwN ?_ _ | with_reducible refine Grew.sc ?_ (by first | omega | (simp <;> omega)) _ _))); have hV : Grew w V := (by subst hW; repeat (first | with_reducible exact Grew.refl _ | with_reducible refine Grew.alloc ?_ _ | with_reducible refine Grew.drw ?_ | with_reducible refine Grew.drwN ?_ _ | with_reducible refine Grew.sc ?_ (by first | omega | (simp <;> omega)) _ _)); clear hW; (with_reducible refine (HF.out _).mono ?_); rintro e w1 ⟨rfl, g1⟩; replace p := p.grew g1; replace q := q.grew g1; have HG := Lib.hid (hV.trans g1); clear hV g1; have p0 := p.cell 0; have p1 := p.cell 1; have p2 := p.cell 2; have pf := p.free; have pl := p.lt; simp only [List.getElem?_cons_zero, List.getElem?_cons_succ] at p0 p1 p2; have q0 := q.cell 0; have q1 := q.cell 1; have q2 := q.cell 2; have qf := q.free; have ql := q.lt; simp only [List.getElem?_cons_zero, List.getElem?_cons_succ] at q0 q1 q2; clear p; clear q))
    refine rn_ret_c38_t Try.results28 (S0 := w.heap.size + 1) (v0_0 := .int .i64 (l')) (v0_1 := .int .i64 (h')) (v0_2 := .int .i64 (e')) (v1 := .int .i64 c) rfl (by go_simp) (by go_simp) (by go_simp) rfl ⟨rfl, ?_⟩
    repeat (first | with_reducible exact HG.out | with_reducible exact Grew.refl _ | with_reducible refine Grew.alloc ?_ _ | with_reducible refine Grew.drw ?_ | with_reducible refine Grew.drwN ?_ _ | with_reducible refine Grew.sc ?_ (by first | omega | (simp <;> omega)) _ _)
theorem rmeasure_bad (x y t : Int) (w : World) (h : okM x y t = false) :
    Calls Try.prog 12 #[iv x y, .int .i64 t] w fun e w' => e = .returned (.tuple #[iv 0 0, .bool false, .int .i64 1]) ∧ Grew w w' := by
  cases h1 : okR x y with
  | false =>
    clear h
    go_enter Try.func12, Try.ntmps12
    go_wp2_with (go_at_call 17; generalize hW : World.alloc _ _ = V; have p : Blk (w.heap.size) [.int .i64 x, .int .i64 y] 23 V := (by subst hW; exact Blk.grew (w := (w.alloc (.cells #[.int .i64 x, .int .i64 y] 23))) (by simpa using Blk.new w [.int .i64 x, .int .i64 y] 23) (by repeat (first | with_reducible exact Grew.refl _ | with_reducible refine Grew.alloc ?_ _ | with_reducible refine Grew.drw ?_ | with_reducible refine Grew.drwN ?_ _ | with_reducible refine Grew.sc ?_ (by first | omega | (simp <;> omega)) _ _))); have q : Blk (w.heap.size + 1) [.int .i64 0, .int .i64 0] 25 V := (by subst hW; exact Blk.grew (w := ((w.alloc (.cells #[.int .i64 x, .int .i64 y] 23)).alloc (.cells #[.int .i64 0, .int .i64 0] 25))) (by simpa using Blk.new (w.alloc (.cells #[.int .i64 x, .int .i64 y] 23)) [.int .i64 0, .int .i64 0] 25) (by repeat (first | with_reducible exact Grew.refl _ | with_reducible refine Grew.alloc ?_ _ | with_reducible refine Grew.drw ?_ | with_reducible refine Grew.drwN ?_ _ | with_reducible refine Grew.sc ?_ (by first | omega | (simp <;> omega)) _ _))); have hV : Grew w V := (by subst hW; repeat (first | with_reducible exact Grew.refl _ | with_reducible refine Grew.alloc ?_ _ | with_reducible refine Grew.drw ?_ | with_reducible refine Grew.drwN ?_ _ | with_reducible refine Grew.sc ?_ (by first | omega | (simp <;> omega)) _ _)); clear hW; (with_reducible refine (rright_any x y _).mono ?_); rintro e w1 ⟨rfl, g1⟩; replace p := p.grew g1; replace q := q.grew g1; simp only [h1]; have HG := Lib.hid (hV.trans g1); clear hV g1; have p0 := p.cell 0; have p1 := p.cell 1; have pf := p.free; have pl := p.lt; simp only [List.getElem?_cons_zero, List.getElem?_cons_succ] at p0 p1; have q0 := q.cell 0; have q1 := q.cell 1; have qf := q.free; have ql := q.lt; simp only [List.getElem?_cons_zero, List.getElem?_cons_succ] at q0 q1; clear p; clear q)
    refine rn_ret_c25_t_t Try.results12 (S0 := w.heap.size + 1) (v0_0 := .int .i64 (0)) (v0_1 := .int .i64 (0)) (v1 := .bool false) (v2 := .int .i64 1) rfl (by go_simp) (by go_simp) rfl rfl ⟨rfl, ?_⟩
    repeat (first | with_reducible exact HG.out | with_reducible exact Grew.refl _ | with_reducible refine Grew.alloc ?_ _ | with_reducible refine Grew.drw ?_ | with_reducible refine Grew.drwN ?_ _ | with_reducible refine Grew.sc ?_ (by first | omega | (simp <;> omega)) _ _)
  | true =>
    have ht : ¬ (0 ≤ t ∧ t ≤ 1099511627776) := fun hc => by rw [okM, h1, Bool.true_and, decide_eq_false_iff_not] at h; exact h hc
    clear h
    go_enter Try.func12, Try.ntmps12
    go_wp2_with (first
      | (go_at_call 26; (with_reducible refine (rmost_any _).mono ?_); rintro e w9 ⟨rfl, hw9⟩; subst w9)
      | (go_at_call 17; generalize hW : World.alloc _ _ = V; have p : Blk (w.heap.size) [.int .i64 x, .int .i64 y] 23 V := (by subst hW; exact Blk.grew (w := (w.alloc (.cells #[.int .i64 x, .int .i64 y] 23))) (by simpa using Blk.new w [.int .i64 x, .int .i64 y] 23) (by repeat (first | with_reducible exact Grew.refl _ | with_reducible refine Grew.alloc ?_ _ | with_reducible refine Grew.drw ?_ | with_reducible refine Grew.drwN ?_ _ | with_reducible refine Grew.sc ?_ (by first | omega | (simp <;> omega)) _ _))); have q : Blk (w.heap.size + 1) [.int .i64 0, .int .i64 0] 25 V := (by subst hW; exact Blk.grew (w := ((w.alloc (.cells #[.int .i64 x, .int .i64 y] 23)).alloc (.cells #[.int .i64 0, .int .i64 0] 25))) (by simpa using Blk.new (w.alloc (.cells #[.int .i64 x, .int .i64 y] 23)) [.int .i64 0, .int .i64 0] 25) (by repeat (first | with_reducible exact Grew.refl _ | with_reducible refine Grew.alloc ?_ _ | with_reducible refine Grew.drw ?_ | with_reducible refine Grew.drwN ?_ _ | with_reducible refine Grew.sc ?_ (by first | omega | (simp <;> omega)) _ _))); have hV : Grew w V := (by subst hW; repeat (first | with_reducible exact Grew.refl _ | with_reducible refine Grew.alloc ?_ _ | with_reducible refine Grew.drw ?_ | with_reducible refine Grew.drwN ?_ _ | with_reducible refine Grew.sc ?_ (by first | omega | (simp <;> omega)) _ _)); clear hW; (with_reducible refine (rright_any x y _).mono ?_); rintro e w1 ⟨rfl, g1⟩; replace p := p.grew g1; replace q := q.grew g1; simp only [h1]; have HG := Lib.hid (hV.trans g1); clear hV g1; have p0 := p.cell 0; have p1 := p.cell 1; have pf := p.free; have pl := p.lt; simp only [List.getElem?_cons_zero, List.getElem?_cons_succ] at p0 p1; have q0 := q.cell 0; have q1 := q.cell 1; have qf := q.free; have ql := q.lt; simp only [List.getElem?_cons_zero, List.getElem?_cons_succ] at q0 q1; clear p; clear q))
    all_goals first | (exfalso; omega) | skip
    all_goals
      refine rn_ret_c25_t_t Try.results12 (S0 := w.heap.size + 1) (v0_0 := .int .i64 (0)) (v0_1 := .int .i64 (0)) (v1 := .bool false) (v2 := .int .i64 1) rfl (by go_simp) (by go_simp) rfl rfl ⟨rfl, ?_⟩
      repeat (first | with_reducible exact HG.out | with_reducible exact Grew.refl _ | with_reducible refine Grew.alloc ?_ _ | with_reducible refine Grew.drw ?_ | with_reducible refine Grew.drwN ?_ _ | with_reducible refine Grew.sc ?_ (by first | omega | (simp <;> omega)) _ _)
theorem rmeasure_sat (x y t : Int) (w : World) (h : okM x y t = true) (hs : y < t) :
    Calls Try.prog 12 #[iv x y, .int .i64 t] w fun e w' => e = .returned (.tuple #[iv y 1099511627776, .bool false, .int .i64 0]) ∧ Grew w w' := by
  have h1 : okR x y = true := (Bool.and_eq_true_iff.1 h).1
  obtain ⟨-, t0, t1⟩ := okM_iff.1 h
  clear h
  go_enter Try.func12, Try.ntmps12
  go_wp2_with (first
    | (go_at_call 26; (with_reducible refine (rmost_any _).mono ?_); rintro e w9 ⟨rfl, hw9⟩; subst w9)
    | (go_at_call 17; generalize hW : World.alloc _ _ = V; have p : Blk (w.heap.size) [.int .i64 x, .int .i64 y] 23 V := (by subst hW; exact Blk.grew (w := (w.alloc (.cells #[.int .i64 x, .int .i64 y] 23))) (by simpa using Blk.new w [.int .i64 x, .int .i64 y] 23) (by repeat (first | with_reducible exact Grew.refl _ | with_reducible refine Grew.alloc ?_ _ | with_reducible refine Grew.drw ?_ | with_reducible refine Grew.drwN ?_ _ | with_reducible refine Grew.sc ?_ (by first | omega | (simp <;> omega)) _ _))); have q : Blk (w.heap.size + 1) [.int .i64 0, .int .i64 0] 25 V := (by subst hW; exact Blk.grew (w := ((w.alloc (.cells #[.int .i64 x, .int .i64 y] 23)).alloc (.cells #[.int .i64 0, .int .i64 0] 25))) (by simpa using Blk.new (w.alloc (.cells #[.int .i64 x, .int .i64 y] 23)) [.int .i64 0, .int .i64 0] 25) (by repeat (first | with_reducible exact Grew.refl _ | with_reducible refine Grew.alloc ?_ _ | with_reducible refine Grew.drw ?_ | with_reducible refine Grew.drwN ?_ _ | with_reducible refine Grew.sc ?_ (by first | omega | (simp <;> omega)) _ _))); have hV : Grew w V := (by subst hW; repeat (first | with_reducible exact Grew.refl _ | with_reducible refine Grew.alloc ?_ _ | with_reducible refine Grew.drw ?_ | with_reducible refine Grew.drwN ?_ _ | with_reducible refine Grew.sc ?_ (by first | omega | (simp <;> omega)) _ _)); clear hW; (with_reducible refine (rright_any x y _).mono ?_); rintro e w1 ⟨rfl, g1⟩; replace p := p.grew g1; replace q := q.grew g1; simp only [h1]; have HG := Lib.hid (hV.trans g1); clear hV g1; have p0 := p.cell 0; have p1 := p.cell 1; have pf := p.free; have pl := p.lt; simp only [List.getElem?_cons_zero, List.getElem?_cons_succ] at p0 p1; have q0 := q.cell 0; have q1 := q.cell 1; have qf := q.free; have ql := q.lt; simp only [List.getElem?_cons_zero, List.getElem?_cons_succ] at q0 q1))
  have c0 : Atv ⟨w.heap.size, 0, none⟩ (.int .i64 x) w1.drew := (p.grew (Grew.refl _).drw).atv 0 rfl
  have c1 : Atv ⟨w.heap.size, 1, none⟩ (.int .i64 y) w1.drew := (p.grew (Grew.refl _).drw).atv 1 rfl
  refine wp_still_tail 4 [some 25, some 26, some 27, some 28] [false, false, false, false, false, false, false, false, false, false, false, false, false, false, false, false, false, false, false, false, false, false, false, false, false, true, true, true, true, false, false, false, false, false, false, false, false, false, false, false, false, false, false, false, false] [fun v _ => v = .pointer (some ⟨w.heap.size, 1, none⟩), fun v _ => v = .int .i64 (y), fun v _ => v = .int .i64 (1099511627776), fun v _ => v = .agg #[.int .i64 (y), .int .i64 (1099511627776)]] (by kernel_rfl) (by kernel_rfl) (by kernel_rfl) rfl ⟨?_, ?_, ?_, ?_, trivial⟩ ?_
  · intro u w hR hd; exact rn_fld_23_1 (ev rfl) ⟨rfl, rfl⟩
  · intro u w hR hd; exact rn_ld_2 (ev (hd.1 rfl)) (c1.kept hR) ⟨rfl, rfl⟩
  · intro u w hR hd; exact runs_c0 enters_rmost  (callp (fun _ e => e) (rmost_any _))
  · intro u w hR hd; exact rn_bld_25_01 (ev (hd.1 rfl)) (ev (hd.2.1 rfl)) ⟨rfl, rfl⟩
  · intro uu h
    have h28 : uu 28 = iv y 1099511627776 := h 3 (by decide)
    have hq := q.grew (Grew.refl w1).drw
    refine wpAny_one (i := 4) none (by kernel_rfl) rfl rfl rfl (rn_st_25 (S := w.heap.size + 1) (o := 0) (ev rfl) (ev h28) (hq.atv 0 rfl) (hq.atv 1 rfl) hq.free ?_)
    refine wpAny_one (i := 5) (some 5) (by kernel_rfl) rfl rfl rfl (runs_mva rfl ?_)
    refine wpAny_one (i := 6) (some 6) (by kernel_rfl) rfl rfl rfl (runs_mva rfl ?_)
    refine wpAny_done (by kernel_rfl) ?_ _
    simp only [Act.put, mixA, mixL, cond_true, cond_false, List.setIfInBounds_toArray, List.set_cons_succ, List.set_cons_zero]
    clear h h28
    go_wp2
    refine rn_ret_c25_t_t Try.results12 (S0 := w.heap.size + 1) (v0_0 := .int .i64 (y)) (v0_1 := .int .i64 (1099511627776)) (v1 := .bool false) (v2 := .int .i64 0) rfl (by go_simp) (by go_simp) rfl rfl ⟨rfl, ?_⟩
    repeat (first | with_reducible exact HG.out | with_reducible exact Grew.refl _ | with_reducible refine Grew.alloc ?_ _ | with_reducible refine Grew.drw ?_ | with_reducible refine Grew.drwN ?_ _ | with_reducible refine Grew.sc ?_ (by first | omega | (simp <;> omega)) _ _)
theorem rmeasure_in (x y t : Int) (w : World) (h : okM x y t = true) (hs : t ≤ y) :
    Calls Try.prog 12 #[iv x y, .int .i64 t] w fun e w' => e = .returned (.tuple #[iv (cl (t - dev x t - 1)) (cl (t + dev x t + 1)), .bool true, .int .i64 0]) ∧ Grew w w' := by
  have h1 : okR x y = true := (Bool.and_eq_true_iff.1 h).1
  obtain ⟨⟨x0, x1, -⟩, t0, t1⟩ := okM_iff.1 h
  clear h
  obtain ⟨m0, m1, d0, d1⟩ := dev_bd ⟨x0, x1⟩ ⟨t0, t1⟩
  have hw : IntKind.i64.wrap (t * x) = t * x := i64_in _ (by omega)
  have hd : (t * x).tdiv 1000 = dev x t := rfl
  go_enter Try.func12, Try.ntmps12
  go_wp2_with (first
    | (go_at_call 26; (with_reducible refine (rmost_any _).mono ?_); rintro e w9 ⟨rfl, hw9⟩; subst w9)
    | (go_at_call 27; (with_reducible refine (rclamp_any _ _).mono ?_); rintro e w9 ⟨rfl, hw9⟩; subst w9)
    | (go_at_call 17; generalize hW : World.alloc _ _ = V; have p : Blk (w.heap.size) [.int .i64 x, .int .i64 y] 23 V := (by subst hW; exact Blk.grew (w := (w.alloc (.cells #[.int .i64 x, .int .i64 y] 23))) (by simpa using Blk.new w [.int .i64 x, .int .i64 y] 23) (by repeat (first | with_reducible exact Grew.refl _ | with_reducible refine Grew.alloc ?_ _ | with_reducible refine Grew.drw ?_ | with_reducible refine Grew.drwN ?_ _ | with_reducible refine Grew.sc ?_ (by first | omega | (simp <;> omega)) _ _))); have q : Blk (w.heap.size + 1) [.int .i64 0, .int .i64 0] 25 V := (by subst hW; exact Blk.grew (w := ((w.alloc (.cells #[.int .i64 x, .int .i64 y] 23)).alloc (.cells #[.int .i64 0, .int .i64 0] 25))) (by simpa using Blk.new (w.alloc (.cells #[.int .i64 x, .int .i64 y] 23)) [.int .i64 0, .int .i64 0] 25) (by repeat (first | with_reducible exact Grew.refl _ | with_reducible refine Grew.alloc ?_ _ | with_reducible refine Grew.drw ?_ | with_reducible refine Grew.drwN ?_ _ | with_reducible refine Grew.sc ?_ (by first | omega | (simp <;> omega)) _ _))); have hV : Grew w V := (by subst hW; repeat (first | with_reducible exact Grew.refl _ | with_reducible refine Grew.alloc ?_ _ | with_reducible refine Grew.drw ?_ | with_reducible refine Grew.drwN ?_ _ | with_reducible refine Grew.sc ?_ (by first | omega | (simp <;> omega)) _ _)); clear hW; (with_reducible refine (rright_any x y _).mono ?_); rintro e w1 ⟨rfl, g1⟩; replace p := p.grew g1; replace q := q.grew g1; simp only [h1]; have HG := Lib.hid (hV.trans g1); clear hV g1; have p0 := p.cell 0; have p1 := p.cell 1; have pf := p.free; have pl := p.lt; simp only [List.getElem?_cons_zero, List.getElem?_cons_succ] at p0 p1; have q0 := q.cell 0; have q1 := q.cell 1; have qf := q.free; have ql := q.lt; simp only [List.getElem?_cons_zero, List.getElem?_cons_succ] at q0 q1; clear p; clear q))
  refine rn_ret_c25_t_t Try.results12 (S0 := w.heap.size + 1) (v0_0 := .int .i64 (cl (t - dev x t - 1))) (v0_1 := .int .i64 (cl (t + dev x t + 1))) (v1 := .bool true) (v2 := .int .i64 0) rfl (by go_simp) (by go_simp) rfl rfl ⟨rfl, ?_⟩
  repeat (first | with_reducible exact HG.out | with_reducible exact Grew.refl _ | with_reducible refine Grew.alloc ?_ _ | with_reducible refine Grew.drw ?_ | with_reducible refine Grew.drwN ?_ _ | with_reducible refine Grew.sc ?_ (by first | omega | (simp <;> omega)) _ _)
end Go.Proofs.Yteeecehfbmeohaa
