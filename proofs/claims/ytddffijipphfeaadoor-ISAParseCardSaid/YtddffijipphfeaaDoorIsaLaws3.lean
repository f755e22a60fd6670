/-
  LAYER 11 (isa): the statement Format.
-/
import Derived.Test.YtddffijipphfeaaDoorIsaParse3
import Derived.Test.YtddffijipphfeaaDoorIsaRFmt
import Derived.Test.YtddffijipphfeaaDoorIsaEnv
namespace Go.Proofs.YtddffijipphfeaaDoor
open Go Go.RowKit Go.IntWalk
open Go.Lib (itoa)
set_option linter.unusedSimpArgs false
set_option linter.unusedVariables false
set_option maxRecDepth 8000
theorem format_is (x : Cd) (F : ByteArray) (h : (⟨(fmt x).toArray⟩ : ByteArray) = F) (w : World) (hE : Env w) : Calls Tryd.prog 24 #[cdV x] w fun e w' => e = .returned (.string F) ∧ Grew w w' := h ▸ format_any x w hE
theorem rformat_is (x : Cd) (F : ByteArray) (h : (⟨(fmt x).toArray⟩ : ByteArray) = F) (hi : -32768 ≤ x.i ∧ x.i ≤ 32767) (w : World) : Calls Tryd.prog 25 #[cdV x] w fun e w' => e = .returned (.string F) ∧ Grew w w' := h ▸ rformat_any x hi w
theorem fits_eq {s : ByteArray} {y : Cd} (h : Fits s y) : (fmt y == s.toList) = true := by rw [beq_list, h.2]; simp
theorem parse_hit (s : ByteArray) (y : Cd) (h : Fits s y) (hs : s.size ≤ 100000) (w : World) (hE : EnvP w) : Calls Tryd.prog 26 #[.string s] w fun e w' => e = .returned (.tuple #[cdV y, .int .i64 0]) ∧ Grew w w' :=
  (parse_any s hs w hE).mono fun e w' ⟨x, h1, _, h2, h3⟩ => by
    obtain rfl := h2 y h.1 h.2
    rw [parR_pos s x h.1 (fits_eq h)] at h1
    exact ⟨h1, h3⟩
theorem parR_none (s : ByteArray) (x : Cd) (h : ∀ y, ¬ Fits s y) : parR s x = .tuple #[cdV .no, .int .i64 2] := by
  cases hv : valid x
  · exact parR_neg1 s x hv
  · refine parR_neg2 s x ?_
    cases hf : (fmt x == s.toList)
    · rfl
    · rw [beq_list] at hf
      exact absurd ⟨hv, eq_of_beq hf⟩ (h x)
theorem parse_none (s : ByteArray) (h : ∀ y, ¬ Fits s y) (hs : s.size ≤ 100000) (w : World) (hE : EnvP w) : Calls Tryd.prog 26 #[.string s] w fun e w' => e = .returned (.tuple #[.agg #[.int .i64 0, .int .i64 0, .int .i64 0, .int .i64 0, .int .i16 0], .int .i64 2]) ∧ Grew w w' :=
  (parse_any s hs w hE).mono fun e w' ⟨x, h1, _, _, h3⟩ => by
    rw [parR_none s x h] at h1
    exact ⟨h1, h3⟩
theorem body_ne (y : Cd) (hv : valid y = true) : body y ≠ [] := by
  unfold body
  intro h
  exact ((valid_iff y).1 hv).2.2.2.2.1 (List.append_eq_nil_iff.1 h).1
theorem fits_none (y : Cd) : ¬ Fits ⟨#[]⟩ y := fun ⟨h1, h2⟩ => by rw [fmt_ok h1] at h2; exact body_ne y h1 h2
theorem body_len (x : Cd) (hv : valid x = true) : (body x).length ≤ 200 := by
  obtain ⟨_, ha, hb, hc, hi, _, _⟩ := valid_bd hv
  have h1 := mn_len x.op
  have h2 := items_len x ha hb hc hi
  unfold body
  split <;> simp <;> omega
set_option maxHeartbeats 4000000 in
theorem format_law_yes (x : Cd) (hv : valid x = true) (hi : -32768 ≤ x.i ∧ x.i ≤ 32767) (w : World) (he : EnvP w) : Calls Tryd.prog 7 #[cdV x] w fun e w' => e = .returned (.bool true) ∧ Grew w w' := by
  obtain ⟨F, HF⟩ : ∃ F : ByteArray, Hid ((⟨(fmt x).toArray⟩ : ByteArray) = F) := ⟨_, Lib.hid rfl⟩
  have HFIT : Hid (Fits F x) := Lib.hid ⟨hv, by rw [← HF.out]⟩
  have HS : Hid (F.size ≤ 200) := Lib.hid (by rw [← HF.out, fmt_ok hv]; have := body_len x hv; show (body x).toArray.size ≤ 200; simpa using this)
  have HE := Lib.hid he
  have HI := Lib.hid hi
  have HV := Lib.hid hv
  clear he hi hv
  have HB := Lib.hid (Grew.refl w)
  have tk0 := Lib.hid trivial
  have tk1 := Lib.hid trivial
  have tk2 := Lib.hid trivial
  have tk3 := Lib.hid trivial
  have tk4 := Lib.hid trivial
  go_enter Tryd.func7, Tryd.ntmps7
  go_wp2_with (first
    | (go_at_call 11; clear tk0; generalize hW : World.alloc _ _ = V; have bx : Blk (w.heap.size) [.int .i64 x.op, .int .i64 x.a, .int .i64 x.b, .int .i64 x.c, .int .i16 x.i] 24 V := (by subst hW; exact Blk.grew (w := (w.alloc (.cells #[.int .i64 x.op, .int .i64 x.a, .int .i64 x.b, .int .i64 x.c, .int .i16 x.i] 24))) (by simpa using Blk.new w [.int .i64 x.op, .int .i64 x.a, .int .i64 x.b, .int .i64 x.c, .int .i16 x.i] 24) (by repeat (first | with_reducible exact Grew.refl _ | with_reducible refine Grew.alloc ?_ _ | with_reducible refine Grew.drw ?_ | with_reducible refine Grew.drwN ?_ _ | with_reducible refine Grew.sc ?_ (by first | omega | (simp <;> omega)) _ _))); replace HB : Hid (Grew w V) := Lib.hid (by subst hW; repeat (first | with_reducible exact HB.out | with_reducible refine Grew.sc ?_ (by first | omega | (simp <;> omega)) _ _ | with_reducible refine Grew.alloc ?_ _ | with_reducible refine Grew.drw ?_ | with_reducible refine Grew.drwN ?_ _)); clear hW; (with_reducible refine (wakes_any _ (HE.out.grew HB.out).env).mono ?_); rintro e w1 ⟨rfl, g1⟩; replace bx := bx.grew g1; replace HB := Lib.hid (HB.out.trans g1); clear g1; have bx0 := bx.cell 0; have bx1 := bx.cell 1; have bx2 := bx.cell 2; have bx3 := bx.cell 3; have bx4 := bx.cell 4; have bxf := bx.free; have bxl := bx.lt; simp only [List.getElem?_cons_zero, List.getElem?_cons_succ] at bx0 bx1 bx2 bx3 bx4 bxl)
    | (go_at_call 24; clear tk1; (with_reducible refine (format_is x F HF.out _ (HE.out.grew HB.out).env).mono ?_); rintro e w2 ⟨rfl, g1⟩; clear bx0 bx1 bx2 bx3 bx4 bxf bxl; replace bx := bx.grew g1; replace HB := Lib.hid (HB.out.trans g1); clear g1; have bx0 := bx.cell 0; have bx1 := bx.cell 1; have bx2 := bx.cell 2; have bx3 := bx.cell 3; have bx4 := bx.cell 4; have bxf := bx.free; have bxl := bx.lt; simp only [List.getElem?_cons_zero, List.getElem?_cons_succ] at bx0 bx1 bx2 bx3 bx4 bxl)
    | (go_at_call 25; clear tk2; (with_reducible refine (rformat_is x F HF.out HI.out _).mono ?_); rintro e w3 ⟨rfl, g1⟩; clear bx0 bx1 bx2 bx3 bx4 bxf bxl; replace bx := bx.grew g1; replace HB := Lib.hid (HB.out.trans g1); clear g1; have bx0 := bx.cell 0; have bx1 := bx.cell 1; have bx2 := bx.cell 2; have bx3 := bx.cell 3; have bx4 := bx.cell 4; have bxf := bx.free; have bxl := bx.lt; simp only [List.getElem?_cons_zero, List.getElem?_cons_succ] at bx0 bx1 bx2 bx3 bx4 bxl)
    | (go_at_call 26; clear tk3; (with_reducible refine (parse_hit F x HFIT.out (by have := HS.out; omega) _ (HE.out.grew HB.out)).mono ?_); rintro e w4 ⟨rfl, g1⟩; clear bx0 bx1 bx2 bx3 bx4 bxf bxl; replace bx := bx.grew g1; replace HB := Lib.hid (HB.out.trans g1); clear g1; have bx0 := bx.cell 0; have bx1 := bx.cell 1; have bx2 := bx.cell 2; have bx3 := bx.cell 3; have bx4 := bx.cell 4; have bxf := bx.free; have bxl := bx.lt; simp only [List.getElem?_cons_zero, List.getElem?_cons_succ] at bx0 bx1 bx2 bx3 bx4 bxl)
    | (go_at_call 13; clear tk4; have ne_bd_bx := Lib.hid (show w4.heap.size ≠ w.heap.size by omega); generalize hW : World.alloc _ _ = V; clear bx0 bx1 bx2 bx3 bx4 bxf bxl; replace bx : Blk (w.heap.size) [.int .i64 x.op, .int .i64 x.a, .int .i64 x.b, .int .i64 x.c, .int .i16 x.i] 24 V := (by subst hW; exact (bx.grew ((Grew.refl _).alloc _))); have bd : Blk (w4.heap.size) [.int .i64 x.op, .int .i64 x.a, .int .i64 x.b, .int .i64 x.c, .int .i16 x.i] 24 V := (by subst hW; exact Blk.grew (w := (w4.alloc (.cells #[.int .i64 x.op, .int .i64 x.a, .int .i64 x.b, .int .i64 x.c, .int .i16 x.i] 24))) (by simpa using Blk.new w4 [.int .i64 x.op, .int .i64 x.a, .int .i64 x.b, .int .i64 x.c, .int .i16 x.i] 24) (by repeat (first | with_reducible exact Grew.refl _ | with_reducible refine Grew.alloc ?_ _ | with_reducible refine Grew.drw ?_ | with_reducible refine Grew.drwN ?_ _ | with_reducible refine Grew.sc ?_ (by first | omega | (simp <;> omega)) _ _))); replace HB : Hid (Grew w V) := Lib.hid (by subst hW; repeat (first | with_reducible exact HB.out | with_reducible refine Grew.sc ?_ (by first | omega | (simp <;> omega)) _ _ | with_reducible refine Grew.alloc ?_ _ | with_reducible refine Grew.drw ?_ | with_reducible refine Grew.drwN ?_ _)); clear hW; (with_reducible refine (rvalid_is x _ true HV.out HI.out).mono ?_); rintro e w5 ⟨rfl, g1⟩; replace bx := bx.grew g1; replace bd := bd.grew g1; replace HB := Lib.hid (HB.out.trans g1); clear g1; have bx0 := bx.cell 0; have bx1 := bx.cell 1; have bx2 := bx.cell 2; have bx3 := bx.cell 3; have bx4 := bx.cell 4; have bxf := bx.free; have bxl := bx.lt; simp only [List.getElem?_cons_zero, List.getElem?_cons_succ] at bx0 bx1 bx2 bx3 bx4 bxl; have bd0 := bd.cell 0; have bd1 := bd.cell 1; have bd2 := bd.cell 2; have bd3 := bd.cell 3; have bd4 := bd.cell 4; have bdf := bd.free; have bdl := bd.lt; simp only [List.getElem?_cons_zero, List.getElem?_cons_succ] at bd0 bd1 bd2 bd3 bd4 bdl))
  refine bodyPost_ret (v := .bool true) (by simp [results, Tryd.results7, go_sem]) rfl ?_
  exact ⟨rfl, by repeat (first | with_reducible exact HB.out | with_reducible exact Grew.refl _ | with_reducible refine Grew.sc ?_ (by first | omega | (simp <;> omega)) _ _ | with_reducible refine Grew.alloc ?_ _ | with_reducible refine Grew.drw ?_)⟩
set_option maxHeartbeats 4000000 in
theorem format_law_no (x : Cd) (hv : valid x = false) (hi : -32768 ≤ x.i ∧ x.i ≤ 32767) (w : World) (he : EnvP w) : Calls Tryd.prog 7 #[cdV x] w fun e w' => e = .returned (.bool true) ∧ Grew w w' := by
  have HF : Hid ((⟨(fmt x).toArray⟩ : ByteArray) = ⟨#[]⟩) := Lib.hid (by rw [fmt_no hv])
  have HNO := Lib.hid fits_none
  have HE := Lib.hid he
  have HI := Lib.hid hi
  have HV := Lib.hid hv
  clear he hi hv
  have HB := Lib.hid (Grew.refl w)
  have tk0 := Lib.hid trivial
  have tk1 := Lib.hid trivial
  have tk2 := Lib.hid trivial
  have tk3 := Lib.hid trivial
  have tk4 := Lib.hid trivial
  go_enter Tryd.func7, Tryd.ntmps7
  go_wp2_with (first
    | (go_at_call 11; clear tk0; generalize hW : World.alloc _ _ = V; have bx : Blk (w.heap.size) [.int .i64 x.op, .int .i64 x.a, .int .i64 x.b, .int .i64 x.c, .int .i16 x.i] 24 V := (by subst hW; exact Blk.grew (w := (w.alloc (.cells #[.int .i64 x.op, .int .i64 x.a, .int .i64 x.b, .int .i64 x.c, .int .i16 x.i] 24))) (by simpa using Blk.new w [.int .i64 x.op, .int .i64 x.a, .int .i64 x.b, .int .i64 x.c, .int .i16 x.i] 24) (by repeat (first | with_reducible exact Grew.refl _ | with_reducible refine Grew.alloc ?_ _ | with_reducible refine Grew.drw ?_ | with_reducible refine Grew.drwN ?_ _ | with_reducible refine Grew.sc ?_ (by first | omega | (simp <;> omega)) _ _))); replace HB : Hid (Grew w V) := Lib.hid (by subst hW; repeat (first | with_reducible exact HB.out | with_reducible refine Grew.sc ?_ (by first | omega | (simp <;> omega)) _ _ | with_reducible refine Grew.alloc ?_ _ | with_reducible refine Grew.drw ?_ | with_reducible refine Grew.drwN ?_ _)); clear hW; (with_reducible refine (wakes_any _ (HE.out.grew HB.out).env).mono ?_); rintro e w1 ⟨rfl, g1⟩; replace bx := bx.grew g1; replace HB := Lib.hid (HB.out.trans g1); clear g1; have bx0 := bx.cell 0; have bx1 := bx.cell 1; have bx2 := bx.cell 2; have bx3 := bx.cell 3; have bx4 := bx.cell 4; have bxf := bx.free; have bxl := bx.lt; simp only [List.getElem?_cons_zero, List.getElem?_cons_succ] at bx0 bx1 bx2 bx3 bx4 bxl)
    | (go_at_call 24; clear tk1; (with_reducible refine (format_is x ⟨#[]⟩ HF.out _ (HE.out.grew HB.out).env).mono ?_); rintro e w2 ⟨rfl, g1⟩; clear bx0 bx1 bx2 bx3 bx4 bxf bxl; replace bx := bx.grew g1; replace HB := Lib.hid (HB.out.trans g1); clear g1; have bx0 := bx.cell 0; have bx1 := bx.cell 1; have bx2 := bx.cell 2; have bx3 := bx.cell 3; have bx4 := bx.cell 4; have bxf := bx.free; have bxl := bx.lt; simp only [List.getElem?_cons_zero, List.getElem?_cons_succ] at bx0 bx1 bx2 bx3 bx4 bxl)
    | (go_at_call 25; clear tk2; (with_reducible refine (rformat_is x ⟨#[]⟩ HF.out HI.out _).mono ?_); rintro e w3 ⟨rfl, g1⟩; clear bx0 bx1 bx2 bx3 bx4 bxf bxl; replace bx := bx.grew g1; replace HB := Lib.hid (HB.out.trans g1); clear g1; have bx0 := bx.cell 0; have bx1 := bx.cell 1; have bx2 := bx.cell 2; have bx3 := bx.cell 3; have bx4 := bx.cell 4; have bxf := bx.free; have bxl := bx.lt; simp only [List.getElem?_cons_zero, List.getElem?_cons_succ] at bx0 bx1 bx2 bx3 bx4 bxl)
    | (go_at_call 26; clear tk3; (with_reducible refine (parse_none ⟨#[]⟩ HNO.out (by decide) _ (HE.out.grew HB.out)).mono ?_); rintro e w4 ⟨rfl, g1⟩; clear bx0 bx1 bx2 bx3 bx4 bxf bxl; replace bx := bx.grew g1; replace HB := Lib.hid (HB.out.trans g1); clear g1; have bx0 := bx.cell 0; have bx1 := bx.cell 1; have bx2 := bx.cell 2; have bx3 := bx.cell 3; have bx4 := bx.cell 4; have bxf := bx.free; have bxl := bx.lt; simp only [List.getElem?_cons_zero, List.getElem?_cons_succ] at bx0 bx1 bx2 bx3 bx4 bxl)
    | (go_at_call 13; clear tk4; have ne_bd_bx := Lib.hid (show w4.heap.size ≠ w.heap.size by omega); generalize hW : World.alloc _ _ = V; clear bx0 bx1 bx2 bx3 bx4 bxf bxl; replace bx : Blk (w.heap.size) [.int .i64 x.op, .int .i64 x.a, .int .i64 x.b, .int .i64 x.c, .int .i16 x.i] 24 V := (by subst hW; exact (bx.grew ((Grew.refl _).alloc _))); have bd : Blk (w4.heap.size) [.int .i64 0, .int .i64 0, .int .i64 0, .int .i64 0, .int .i16 0] 24 V := (by subst hW; exact Blk.grew (w := (w4.alloc (.cells #[.int .i64 0, .int .i64 0, .int .i64 0, .int .i64 0, .int .i16 0] 24))) (by simpa using Blk.new w4 [.int .i64 0, .int .i64 0, .int .i64 0, .int .i64 0, .int .i16 0] 24) (by repeat (first | with_reducible exact Grew.refl _ | with_reducible refine Grew.alloc ?_ _ | with_reducible refine Grew.drw ?_ | with_reducible refine Grew.drwN ?_ _ | with_reducible refine Grew.sc ?_ (by first | omega | (simp <;> omega)) _ _))); replace HB : Hid (Grew w V) := Lib.hid (by subst hW; repeat (first | with_reducible exact HB.out | with_reducible refine Grew.sc ?_ (by first | omega | (simp <;> omega)) _ _ | with_reducible refine Grew.alloc ?_ _ | with_reducible refine Grew.drw ?_ | with_reducible refine Grew.drwN ?_ _)); clear hW; (with_reducible refine (rvalid_is x _ false HV.out HI.out).mono ?_); rintro e w5 ⟨rfl, g1⟩; replace bx := bx.grew g1; replace bd := bd.grew g1; replace HB := Lib.hid (HB.out.trans g1); clear g1; have bx0 := bx.cell 0; have bx1 := bx.cell 1; have bx2 := bx.cell 2; have bx3 := bx.cell 3; have bx4 := bx.cell 4; have bxf := bx.free; have bxl := bx.lt; simp only [List.getElem?_cons_zero, List.getElem?_cons_succ] at bx0 bx1 bx2 bx3 bx4 bxl; have bd0 := bd.cell 0; have bd1 := bd.cell 1; have bd2 := bd.cell 2; have bd3 := bd.cell 3; have bd4 := bd.cell 4; have bdf := bd.free; have bdl := bd.lt; simp only [List.getElem?_cons_zero, List.getElem?_cons_succ] at bd0 bd1 bd2 bd3 bd4 bdl))
  refine bodyPost_ret (v := .bool true) (by simp [results, Tryd.results7, go_sem]) rfl ?_
  exact ⟨rfl, by repeat (first | with_reducible exact HB.out | with_reducible exact Grew.refl _ | with_reducible refine Grew.sc ?_ (by first | omega | (simp <;> omega)) _ _ | with_reducible refine Grew.alloc ?_ _ | with_reducible refine Grew.drw ?_)⟩
theorem format_law (x : Cd) (hi : -32768 ≤ x.i ∧ x.i ≤ 32767) (w : World) (he : EnvP w) : Calls Tryd.prog 7 #[cdV x] w fun e w' => e = .returned (.bool true) ∧ Grew w w' := by
  cases hv : valid x
  · exact format_law_no x hv hi w he
  · exact format_law_yes x hv hi w he
end Go.Proofs.YtddffijipphfeaaDoor
