/-
  CONTRACTS OF LAYER 11 (isa): Valid.
-/
import Derived.Test.YtbhglpiiabpdjaaDoorShort
import Derived.Test.YtbhglpiiabpdjaaDoorCiBase
namespace Go.Proofs.YtbhglpiiabpdjaaDoor
open Go Go.RowKit Go.IntWalk
set_option linter.unusedSimpArgs false
set_option linter.unusedVariables false
set_option maxRecDepth 8000

/-- The register at a place. -/
def Cd.reg (x : Cd) (k : Nat) : Int := if k = 0 then x.a else if k = 1 then x.b else x.c
theorem valid_no (x : Cd) (k : Nat) (b : Bool) (h : hasR x.op k = b) (hr : x.reg k < 0 ∨ (if b then 7 else 0) < x.reg k) (hk : k < 3 := by decide) : valid x = false := by
  cases hv : valid x
  · rfl
  · have h1 := (valid_iff x).1 hv
    rcases (show k = 0 ∨ k = 1 ∨ k = 2 by omega) with rfl | rfl | rfl
    · have h2 := h1.1; rw [h] at h2; replace hr : x.a < 0 ∨ _ < x.a := hr; omega
    · have h2 := h1.2.1; rw [h] at h2; replace hr : x.b < 0 ∨ _ < x.b := hr; omega
    · have h2 := h1.2.2.1; rw [h] at h2; replace hr : x.c < 0 ∨ _ < x.c := hr; omega
theorem valid_tail (x : Cd) (h : ∀ j, j < 3 → ok (hasR x.op j) (x.reg j) = true) : valid x = (!((opr x.op).ev && x.i.tmod 2 != 0) && (!(opr x.op).mn.isEmpty && (decide ((opr x.op).lo ≤ x.i) && decide (x.i ≤ (opr x.op).hi)))) := by
  have h0 : ok (hasR x.op 0) x.a = true := h 0 (by decide)
  have h1 : ok (hasR x.op 1) x.b = true := h 1 (by decide)
  have h2 : ok (hasR x.op 2) x.c = true := h 2 (by decide)
  have h3 : ((opr x.op).mn != []) = !(opr x.op).mn.isEmpty := by cases (opr x.op).mn <;> rfl
  unfold valid
  rw [h0, h1, h2, h3]
  rfl
theorem first_ok (x : Cd) (k : Nat) (h0 : 0 ≤ x.reg k) (h1 : (hasR x.op k = true ∧ x.reg k ≤ 7) ∨ x.reg k ≤ 0) : ok (hasR x.op k) (x.reg k) = true := by
  unfold ok
  simp only [Bool.and_eq_true, decide_eq_true_eq]
  refine ⟨h0, ?_⟩
  rcases h1 with ⟨h1, h2⟩ | h2
  · rw [h1]; exact h2
  · split <;> omega
theorem ok_step (x : Cd) (k : Nat) (h : ∀ j, j < k → ok (hasR x.op j) (x.reg j) = true) (h1 : ok (hasR x.op k) (x.reg k) = true) : ∀ j, j < k + 1 → ok (hasR x.op j) (x.reg j) = true := fun j hj => by
  rcases Nat.lt_or_eq_of_le (Nat.le_of_lt_succ hj) with h2 | rfl
  · exact h j h2
  · exact h1
set_option maxHeartbeats 4000000 in
theorem valid_any (x : Cd) (w : World) (hE : Env w) :
    Calls Tryd.prog 25 #[cdV x] w fun e w' => e = .returned (.bool (valid x)) ∧ Grew w w' := by
  have HE := Lib.hid hE
  clear hE
  have HB := Lib.hid (Grew.refl w)
  have tk0 := Lib.hid trivial
  have tk1 := Lib.hid trivial
  go_enter Tryd.func25, Tryd.ntmps25
  go_wp2_with (first
    | (go_at_call 46; clear tk0; generalize hW : World.alloc _ _ = V; have bx : Blk (w.heap.size) [.int .i64 x.op, .int .i64 x.a, .int .i64 x.b, .int .i64 x.c, .int .i16 x.i] 72 V := (by subst hW; exact Blk.grew (w := (w.alloc (.cells #[.int .i64 x.op, .int .i64 x.a, .int .i64 x.b, .int .i64 x.c, .int .i16 x.i] 72))) (by simpa using Blk.new w [.int .i64 x.op, .int .i64 x.a, .int .i64 x.b, .int .i64 x.c, .int .i16 x.i] 72) (by repeat (first | with_reducible exact Grew.refl _ | with_reducible refine Grew.alloc ?_ _ | with_reducible refine Grew.drw ?_ | with_reducible refine Grew.drwN ?_ _ | with_reducible refine Grew.sc ?_ (by first | omega | (simp <;> omega)) _ _))); have hv : Grew w V := (by subst hW; repeat (first | with_reducible exact Grew.refl _ | with_reducible refine Grew.alloc ?_ _ | with_reducible refine Grew.drw ?_ | with_reducible refine Grew.drwN ?_ _ | with_reducible refine Grew.sc ?_ (by first | omega | (simp <;> omega)) _ _)); clear hW; replace HE := Lib.hid (HE.out.grew hv); replace HB := Lib.hid (HB.out.trans hv); clear hv; (with_reducible refine (operationOf_any x.op _ HE.out).mono ?_); rintro e w1 ⟨rfl, g1⟩; replace bx := bx.grew g1; replace HE := Lib.hid (HE.out.grew g1); replace HB := Lib.hid (HB.out.trans g1); clear g1; have bx0 := bx.cell 0; have bx1 := bx.cell 1; have bx2 := bx.cell 2; have bx3 := bx.cell 3; have bx4 := bx.cell 4; have bxf := bx.free; have bxl := bx.lt; simp only [zz7, zz8] at bx0 bx1 bx2 bx3 bx4 bxl)
    | (go_at_call 47; clear tk1; generalize hW : World.alloc _ _ = V; have bo : Blk (w1.heap.size) [.string ⟨(opr x.op).mn.toArray⟩, .int .u8 (opr x.op).wr, .int .u8 (opr x.op).rd, .int .i16 (opr x.op).lo, .int .i16 (opr x.op).hi, .bool (opr x.op).ev] 101 V := (by subst hW; exact Blk.grew (w := (w1.alloc (.cells #[.string ⟨(opr x.op).mn.toArray⟩, .int .u8 (opr x.op).wr, .int .u8 (opr x.op).rd, .int .i16 (opr x.op).lo, .int .i16 (opr x.op).hi, .bool (opr x.op).ev] 101))) (by simpa using Blk.new w1 [.string ⟨(opr x.op).mn.toArray⟩, .int .u8 (opr x.op).wr, .int .u8 (opr x.op).rd, .int .i16 (opr x.op).lo, .int .i16 (opr x.op).hi, .bool (opr x.op).ev] 101) (by repeat (first | with_reducible exact Grew.refl _ | with_reducible refine Grew.alloc ?_ _ | with_reducible refine Grew.drw ?_ | with_reducible refine Grew.drwN ?_ _ | with_reducible refine Grew.sc ?_ (by first | omega | (simp <;> omega)) _ _))); have hv : Grew w1 V := (by subst hW; repeat (first | with_reducible exact Grew.refl _ | with_reducible refine Grew.alloc ?_ _ | with_reducible refine Grew.drw ?_ | with_reducible refine Grew.drwN ?_ _ | with_reducible refine Grew.sc ?_ (by first | omega | (simp <;> omega)) _ _)); clear hW; clear bx0 bx1 bx2 bx3 bx4 bxf bxl; replace bx := bx.grew hv; replace HE := Lib.hid (HE.out.grew hv); replace HB := Lib.hid (HB.out.trans hv); clear hv; (with_reducible refine (registersOf_any x _).mono ?_); rintro e w2 ⟨rfl, g1⟩; replace bx := bx.grew g1; replace bo := bo.grew g1; replace HE := Lib.hid (HE.out.grew g1); replace HB := Lib.hid (HB.out.trans g1); clear g1; have bx0 := bx.cell 0; have bx1 := bx.cell 1; have bx2 := bx.cell 2; have bx3 := bx.cell 3; have bx4 := bx.cell 4; have bxf := bx.free; have bxl := bx.lt; simp only [zz7, zz8] at bx0 bx1 bx2 bx3 bx4 bxl; have bo0 := bo.cell 0; have bo1 := bo.cell 1; have bo2 := bo.cell 2; have bo3 := bo.cell 3; have bo4 := bo.cell 4; have bo5 := bo.cell 5; have bof := bo.free; have bol := bo.lt; simp only [zz7, zz8] at bo0 bo1 bo2 bo3 bo4 bo5 bol))
  have BX := Lib.hid bx
  have BO := Lib.hid bo
  clear bx bo bx0 bx1 bx2 bx3 bx4 bxf bxl bo0 bo1 bo2 bo3 bo4 bo5 bof bol
  go_loopg [12] 3 (fun gg iv wr => ∃ k : Nat, iv = .int .i64 (k : Int) ∧ k ≤ 3 ∧ gg = 3 - k ∧ Hid (∀ j, j < k → ok (hasR x.op j) (x.reg j) = true) ∧ Hid (Blk w.heap.size (cdv x) 72 wr) ∧ Hid (Blk w1.heap.size (oprv (opr x.op)) 101 wr) ∧ Hid (Grew w wr))
  case atStart => exact ⟨0, rfl, by omega, rfl, Lib.hid (fun j h => absurd h (Nat.not_lt_zero j)), BX, BO, HB⟩
  case round =>
    clear BX BO HB
    obtain ⟨k, rfl, hk, rfl, HT, BX, BO, HB⟩ := hrel
    rcases (show k = 0 ∨ k = 1 ∨ k = 2 ∨ k = 3 by omega) with rfl | rfl | rfl | rfl
    · have tk0 := Lib.hid trivial; have tk1 := Lib.hid trivial; have hix := index0 x.a x.b x.c
      have bx := BX.out; have bx0 := bx.cell 0; have bx1 := bx.cell 1; have bx2 := bx.cell 2; have bx3 := bx.cell 3; have bx4 := bx.cell 4; have bxf := bx.free; have bxl := bx.lt; simp only [zz7, zz8] at bx0 bx1 bx2 bx3 bx4 bxl
      have bo := BO.out; have bo0 := bo.cell 0; have bo1 := bo.cell 1; have bo2 := bo.cell 2; have bo3 := bo.cell 3; have bo4 := bo.cell 4; have bo5 := bo.cell 5; have bof := bo.free; have bol := bo.lt; simp only [zz7, zz8] at bo0 bo1 bo2 bo3 bo4 bo5 bol
      clear BX BO
      go_wp2_with (first
        | (go_at_call 48; clear tk0; (with_reducible refine (registers_any x.op _).mono ?_); rintro e w6 ⟨rfl, g1⟩; clear bx0 bx1 bx2 bx3 bx4 bxf bxl; replace bx := bx.grew g1; clear bo0 bo1 bo2 bo3 bo4 bo5 bof bol; replace bo := bo.grew g1; replace HB := Lib.hid (HB.out.trans g1); clear g1; have bx0 := bx.cell 0; have bx1 := bx.cell 1; have bx2 := bx.cell 2; have bx3 := bx.cell 3; have bx4 := bx.cell 4; have bxf := bx.free; have bxl := bx.lt; simp only [zz7, zz8] at bx0 bx1 bx2 bx3 bx4 bxl; have bo0 := bo.cell 0; have bo1 := bo.cell 1; have bo2 := bo.cell 2; have bo3 := bo.cell 3; have bo4 := bo.cell 4; have bo5 := bo.cell 5; have bof := bo.free; have bol := bo.lt; simp only [zz7, zz8] at bo0 bo1 bo2 bo3 bo4 bo5 bol)
        | (go_at_call 49; clear tk1; (with_reducible refine (contains0 x.op _).mono ?_); rintro e w7 ⟨rfl, g1⟩; clear bx0 bx1 bx2 bx3 bx4 bxf bxl; replace bx := bx.grew g1; clear bo0 bo1 bo2 bo3 bo4 bo5 bof bol; replace bo := bo.grew g1; replace HB := Lib.hid (HB.out.trans g1); clear g1; have bx0 := bx.cell 0; have bx1 := bx.cell 1; have bx2 := bx.cell 2; have bx3 := bx.cell 3; have bx4 := bx.cell 4; have bxf := bx.free; have bxl := bx.lt; simp only [zz7, zz8] at bx0 bx1 bx2 bx3 bx4 bxl; have bo0 := bo.cell 0; have bo1 := bo.cell 1; have bo2 := bo.cell 2; have bo3 := bo.cell 3; have bo4 := bo.cell 4; have bo5 := bo.cell 5; have bof := bo.free; have bol := bo.lt; simp only [zz7, zz8] at bo0 bo1 bo2 bo3 bo4 bo5 bol))
      all_goals first
        | (go_ret; exact ⟨ret_bool (valid_no x 0 true (by assumption) (by show x.a < 0 ∨ 7 < x.a; omega)).symm, HB.out⟩)
        | (go_ret; exact ⟨ret_bool (valid_no x 0 false (by assumption) (by show x.a < 0 ∨ 0 < x.a; omega)).symm, HB.out⟩)
        | (go_roundg (3 - 1); (case measure => omega); (case rel => exact ⟨1, rfl, by omega, rfl, Lib.hid (ok_step x 0 HT.out (first_ok x 0 (by show 0 ≤ x.a; omega) (by first | exact .inl ⟨by assumption, by show x.a ≤ 7; omega⟩ | exact .inr (by show x.a ≤ 0; omega)))), Lib.hid bx, Lib.hid bo, HB⟩))
    · have tk0 := Lib.hid trivial; have tk1 := Lib.hid trivial; have hix := index1 x.a x.b x.c
      have bx := BX.out; have bx0 := bx.cell 0; have bx1 := bx.cell 1; have bx2 := bx.cell 2; have bx3 := bx.cell 3; have bx4 := bx.cell 4; have bxf := bx.free; have bxl := bx.lt; simp only [zz7, zz8] at bx0 bx1 bx2 bx3 bx4 bxl
      have bo := BO.out; have bo0 := bo.cell 0; have bo1 := bo.cell 1; have bo2 := bo.cell 2; have bo3 := bo.cell 3; have bo4 := bo.cell 4; have bo5 := bo.cell 5; have bof := bo.free; have bol := bo.lt; simp only [zz7, zz8] at bo0 bo1 bo2 bo3 bo4 bo5 bol
      clear BX BO
      go_wp2_with (first
        | (go_at_call 48; clear tk0; (with_reducible refine (registers_any x.op _).mono ?_); rintro e w6 ⟨rfl, g1⟩; clear bx0 bx1 bx2 bx3 bx4 bxf bxl; replace bx := bx.grew g1; clear bo0 bo1 bo2 bo3 bo4 bo5 bof bol; replace bo := bo.grew g1; replace HB := Lib.hid (HB.out.trans g1); clear g1; have bx0 := bx.cell 0; have bx1 := bx.cell 1; have bx2 := bx.cell 2; have bx3 := bx.cell 3; have bx4 := bx.cell 4; have bxf := bx.free; have bxl := bx.lt; simp only [zz7, zz8] at bx0 bx1 bx2 bx3 bx4 bxl; have bo0 := bo.cell 0; have bo1 := bo.cell 1; have bo2 := bo.cell 2; have bo3 := bo.cell 3; have bo4 := bo.cell 4; have bo5 := bo.cell 5; have bof := bo.free; have bol := bo.lt; simp only [zz7, zz8] at bo0 bo1 bo2 bo3 bo4 bo5 bol)
        | (go_at_call 49; clear tk1; (with_reducible refine (contains1 x.op _).mono ?_); rintro e w7 ⟨rfl, g1⟩; clear bx0 bx1 bx2 bx3 bx4 bxf bxl; replace bx := bx.grew g1; clear bo0 bo1 bo2 bo3 bo4 bo5 bof bol; replace bo := bo.grew g1; replace HB := Lib.hid (HB.out.trans g1); clear g1; have bx0 := bx.cell 0; have bx1 := bx.cell 1; have bx2 := bx.cell 2; have bx3 := bx.cell 3; have bx4 := bx.cell 4; have bxf := bx.free; have bxl := bx.lt; simp only [zz7, zz8] at bx0 bx1 bx2 bx3 bx4 bxl; have bo0 := bo.cell 0; have bo1 := bo.cell 1; have bo2 := bo.cell 2; have bo3 := bo.cell 3; have bo4 := bo.cell 4; have bo5 := bo.cell 5; have bof := bo.free; have bol := bo.lt; simp only [zz7, zz8] at bo0 bo1 bo2 bo3 bo4 bo5 bol))
      all_goals first
        | (go_ret; exact ⟨ret_bool (valid_no x 1 true (by assumption) (by show x.b < 0 ∨ 7 < x.b; omega)).symm, HB.out⟩)
        | (go_ret; exact ⟨ret_bool (valid_no x 1 false (by assumption) (by show x.b < 0 ∨ 0 < x.b; omega)).symm, HB.out⟩)
        | (go_roundg (3 - 2); (case measure => omega); (case rel => exact ⟨2, rfl, by omega, rfl, Lib.hid (ok_step x 1 HT.out (first_ok x 1 (by show 0 ≤ x.b; omega) (by first | exact .inl ⟨by assumption, by show x.b ≤ 7; omega⟩ | exact .inr (by show x.b ≤ 0; omega)))), Lib.hid bx, Lib.hid bo, HB⟩))
    · have tk0 := Lib.hid trivial; have tk1 := Lib.hid trivial; have hix := index2 x.a x.b x.c
      have bx := BX.out; have bx0 := bx.cell 0; have bx1 := bx.cell 1; have bx2 := bx.cell 2; have bx3 := bx.cell 3; have bx4 := bx.cell 4; have bxf := bx.free; have bxl := bx.lt; simp only [zz7, zz8] at bx0 bx1 bx2 bx3 bx4 bxl
      have bo := BO.out; have bo0 := bo.cell 0; have bo1 := bo.cell 1; have bo2 := bo.cell 2; have bo3 := bo.cell 3; have bo4 := bo.cell 4; have bo5 := bo.cell 5; have bof := bo.free; have bol := bo.lt; simp only [zz7, zz8] at bo0 bo1 bo2 bo3 bo4 bo5 bol
      clear BX BO
      go_wp2_with (first
        | (go_at_call 48; clear tk0; (with_reducible refine (registers_any x.op _).mono ?_); rintro e w6 ⟨rfl, g1⟩; clear bx0 bx1 bx2 bx3 bx4 bxf bxl; replace bx := bx.grew g1; clear bo0 bo1 bo2 bo3 bo4 bo5 bof bol; replace bo := bo.grew g1; replace HB := Lib.hid (HB.out.trans g1); clear g1; have bx0 := bx.cell 0; have bx1 := bx.cell 1; have bx2 := bx.cell 2; have bx3 := bx.cell 3; have bx4 := bx.cell 4; have bxf := bx.free; have bxl := bx.lt; simp only [zz7, zz8] at bx0 bx1 bx2 bx3 bx4 bxl; have bo0 := bo.cell 0; have bo1 := bo.cell 1; have bo2 := bo.cell 2; have bo3 := bo.cell 3; have bo4 := bo.cell 4; have bo5 := bo.cell 5; have bof := bo.free; have bol := bo.lt; simp only [zz7, zz8] at bo0 bo1 bo2 bo3 bo4 bo5 bol)
        | (go_at_call 49; clear tk1; (with_reducible refine (contains2 x.op _).mono ?_); rintro e w7 ⟨rfl, g1⟩; clear bx0 bx1 bx2 bx3 bx4 bxf bxl; replace bx := bx.grew g1; clear bo0 bo1 bo2 bo3 bo4 bo5 bof bol; replace bo := bo.grew g1; replace HB := Lib.hid (HB.out.trans g1); clear g1; have bx0 := bx.cell 0; have bx1 := bx.cell 1; have bx2 := bx.cell 2; have bx3 := bx.cell 3; have bx4 := bx.cell 4; have bxf := bx.free; have bxl := bx.lt; simp only [zz7, zz8] at bx0 bx1 bx2 bx3 bx4 bxl; have bo0 := bo.cell 0; have bo1 := bo.cell 1; have bo2 := bo.cell 2; have bo3 := bo.cell 3; have bo4 := bo.cell 4; have bo5 := bo.cell 5; have bof := bo.free; have bol := bo.lt; simp only [zz7, zz8] at bo0 bo1 bo2 bo3 bo4 bo5 bol))
      all_goals first
        | (go_ret; exact ⟨ret_bool (valid_no x 2 true (by assumption) (by show x.c < 0 ∨ 7 < x.c; omega)).symm, HB.out⟩)
        | (go_ret; exact ⟨ret_bool (valid_no x 2 false (by assumption) (by show x.c < 0 ∨ 0 < x.c; omega)).symm, HB.out⟩)
        | (go_roundg (3 - 3); (case measure => omega); (case rel => exact ⟨3, rfl, by omega, rfl, Lib.hid (ok_step x 2 HT.out (first_ok x 2 (by show 0 ≤ x.c; omega) (by first | exact .inl ⟨by assumption, by show x.c ≤ 7; omega⟩ | exact .inr (by show x.c ≤ 0; omega)))), Lib.hid bx, Lib.hid bo, HB⟩))
    · skip
      have bx := BX.out; have bx0 := bx.cell 0; have bx1 := bx.cell 1; have bx2 := bx.cell 2; have bx3 := bx.cell 3; have bx4 := bx.cell 4; have bxf := bx.free; have bxl := bx.lt; simp only [zz7, zz8] at bx0 bx1 bx2 bx3 bx4 bxl
      have bo := BO.out; have bo0 := bo.cell 0; have bo1 := bo.cell 1; have bo2 := bo.cell 2; have bo3 := bo.cell 3; have bo4 := bo.cell 4; have bo5 := bo.cell 5; have bof := bo.free; have bol := bo.lt; simp only [zz7, zz8] at bo0 bo1 bo2 bo3 bo4 bo5 bol
      clear BX BO
      have HVT := Lib.hid (valid_tail x HT.out)
      go_wp2
      all_goals (go_ret; refine ⟨ret_bool ?_, HB.out⟩; rw [HVT.out]; clear HVT HT HB bx bo bx0 bx1 bx2 bx3 bx4 bxf bxl bo0 bo1 bo2 bo3 bo4 bo5 bof bol HE; first | (simp [*]; done) | (simp [*]; omega))
theorem valid_is (x : Cd) (w : World) (b : Bool) (hb : valid x = b) (hE : Env w) :
    Calls Tryd.prog 25 #[cdV x] w fun e w' => e = .returned (.bool b) ∧ Grew w w' := hb ▸ valid_any x w hE
end Go.Proofs.YtbhglpiiabpdjaaDoor
