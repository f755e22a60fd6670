/-
  LAYER 11 (isa): Reads and Writes of the program and of the reference; the statement Registers.
-/
import Derived.Test.YtddffijipphfeaaDoorIsaNext
import Derived.Handy
namespace Go.Proofs.YtddffijipphfeaaDoor
open Go Go.RowKit Go.IntWalk
set_option linter.unusedSimpArgs false
set_option linter.unusedVariables false
set_option maxRecDepth 8000
section
variable {dst : Option Tmp} {ty : TypeId} {pos : String} {after : Array Edge} {g : Option (Nat × Bool)} {a : Act} {w : World} {T : Value → World → Prop}
end

theorem infoI : (Tryd.prog.info? 3).map (fun i => (i.zero, i.size, i.bytes)) = some (some (.int .i64 0), 1, 8) := by kernel_rfl
/-- Whether a register is among the chosen fields. -/
def pr (x : Cd) (f : Nat) (z : Int) : Bool := (x.a == z && bit f 0) || ((x.b == z && bit f 1) || (x.c == z && bit f 2))
/-- The first k registers. -/
def rgs (k : Nat) : List Int := (List.range k).map fun r : Nat => (r : Int)
theorem rgs_succ (k : Nat) : rgs (k + 1) = rgs k ++ [(k : Int)] := by unfold rgs; rw [List.range_succ, List.map_append]; rfl
def cl (x : Cd) (f : Nat) (k : Nat) : List Int := (rgs k).filter (pr x f)
theorem cl_len (x : Cd) (f k : Nat) : (cl x f k).length ≤ k := Nat.le_trans (List.length_filter_le _ _) (by unfold rgs; simp)
theorem cl_yes (x : Cd) (f k : Nat) (h : pr x f k = true) : cl x f (k + 1) = cl x f k ++ [(k : Int)] := by unfold cl; rw [rgs_succ, List.filter_append]; simp [h]
theorem cl_no (x : Cd) (f k : Nat) (h : pr x f k = false) : cl x f (k + 1) = cl x f k := by unfold cl; rw [rgs_succ, List.filter_append]; simp [h]
theorem contains_f0 (f : Nat) (hf : f ≤ 7) (w : World) : Calls Tryd.prog 38 #[.int .u8 f, .int .i64 0] w fun e w' => e = .returned (.bool (bit f 0)) ∧ Grew w w' := contains_raw f 0 hf (by omega) w
theorem contains_f1 (f : Nat) (hf : f ≤ 7) (w : World) : Calls Tryd.prog 38 #[.int .u8 f, .int .i64 1] w fun e w' => e = .returned (.bool (bit f 1)) ∧ Grew w w' := contains_raw f 1 hf (by omega) w
theorem contains_f2 (f : Nat) (hf : f ≤ 7) (w : World) : Calls Tryd.prog 38 #[.int .u8 f, .int .i64 2] w fun e w' => e = .returned (.bool (bit f 2)) ∧ Grew w w' := contains_raw f 2 hf (by omega) w
theorem chosen_no (x : Cd) (f : Nat) (hv : valid x = false) (w : World) (hE : Env w) :
    Calls Tryd.prog 54 #[cdV x, .int .u8 f] w fun e w' => e = .returned (.slice none 0 0) ∧ Grew w w' := by
  have HV := Lib.hid hv
  have HE := Lib.hid hE
  clear hv hE
  have HB := Lib.hid (Grew.refl w)
  have tk0 := Lib.hid trivial
  go_enter Tryd.func54, Tryd.ntmps54
  go_wp2_with (first
    | (go_at_call 12; clear tk0; generalize hW : World.alloc _ _ = V; have bx : Blk (w.heap.size) [.int .i64 x.op, .int .i64 x.a, .int .i64 x.b, .int .i64 x.c, .int .i16 x.i] 24 V := (by subst hW; exact Blk.grew (w := (w.alloc (.cells #[.int .i64 x.op, .int .i64 x.a, .int .i64 x.b, .int .i64 x.c, .int .i16 x.i] 24))) (by simpa using Blk.new w [.int .i64 x.op, .int .i64 x.a, .int .i64 x.b, .int .i64 x.c, .int .i16 x.i] 24) (by repeat (first | with_reducible exact Grew.refl _ | with_reducible refine Grew.alloc ?_ _ | with_reducible refine Grew.drw ?_ | with_reducible refine Grew.drwN ?_ _ | with_reducible refine Grew.sc ?_ (by first | omega | (simp <;> omega)) _ _))); replace HB : Hid (Grew w V) := Lib.hid (by subst hW; repeat (first | with_reducible exact HB.out | with_reducible refine Grew.sc ?_ (by first | omega | (simp <;> omega)) _ _ | with_reducible refine Grew.alloc ?_ _ | with_reducible refine Grew.drw ?_ | with_reducible refine Grew.drwN ?_ _)); clear hW; (with_reducible refine (valid_is x _ false HV.out (HE.out.grew HB.out)).mono ?_); rintro e w1 ⟨rfl, g1⟩; replace bx := bx.grew g1; replace HB := Lib.hid (HB.out.trans g1); clear g1; have bx0 := bx.cell 0; have bx1 := bx.cell 1; have bx2 := bx.cell 2; have bx3 := bx.cell 3; have bx4 := bx.cell 4; have bxf := bx.free; have bxl := bx.lt; simp only [List.getElem?_cons_zero, List.getElem?_cons_succ] at bx0 bx1 bx2 bx3 bx4 bxl))
  go_ret
  exact ⟨rfl, HB.out⟩
set_option maxHeartbeats 8000000 in
theorem chosen_yes (x : Cd) (f : Nat) (hf : f ≤ 7) (hv : valid x = true) (w : World) (hE : Env w) :
    Calls Tryd.prog 54 #[cdV x, .int .u8 f] w fun e w' => ∃ p c, e = .returned (.slice p (cl x f 8).length c) ∧ Rw 1 encI w' p c (cl x f 8) ∧ Grew w w' := by
  have HV := Lib.hid hv
  have HE := Lib.hid hE
  clear hv hE
  have HB := Lib.hid (Grew.refl w)
  have tk0 := Lib.hid trivial
  go_enter Tryd.func54, Tryd.ntmps54
  go_wp2_with (first
    | (go_at_call 12; clear tk0; generalize hW : World.alloc _ _ = V; have bx : Blk (w.heap.size) [.int .i64 x.op, .int .i64 x.a, .int .i64 x.b, .int .i64 x.c, .int .i16 x.i] 24 V := (by subst hW; exact Blk.grew (w := (w.alloc (.cells #[.int .i64 x.op, .int .i64 x.a, .int .i64 x.b, .int .i64 x.c, .int .i16 x.i] 24))) (by simpa using Blk.new w [.int .i64 x.op, .int .i64 x.a, .int .i64 x.b, .int .i64 x.c, .int .i16 x.i] 24) (by repeat (first | with_reducible exact Grew.refl _ | with_reducible refine Grew.alloc ?_ _ | with_reducible refine Grew.drw ?_ | with_reducible refine Grew.drwN ?_ _ | with_reducible refine Grew.sc ?_ (by first | omega | (simp <;> omega)) _ _))); replace HB : Hid (Grew w V) := Lib.hid (by subst hW; repeat (first | with_reducible exact HB.out | with_reducible refine Grew.sc ?_ (by first | omega | (simp <;> omega)) _ _ | with_reducible refine Grew.alloc ?_ _ | with_reducible refine Grew.drw ?_ | with_reducible refine Grew.drwN ?_ _)); clear hW; (with_reducible refine (valid_is x _ true HV.out (HE.out.grew HB.out)).mono ?_); rintro e w1 ⟨rfl, g1⟩; replace bx := bx.grew g1; replace HB := Lib.hid (HB.out.trans g1); clear g1; have bx0 := bx.cell 0; have bx1 := bx.cell 1; have bx2 := bx.cell 2; have bx3 := bx.cell 3; have bx4 := bx.cell 4; have bxf := bx.free; have bxl := bx.lt; simp only [List.getElem?_cons_zero, List.getElem?_cons_succ] at bx0 bx1 bx2 bx3 bx4 bxl))
  have BX := Lib.hid bx
  clear bx bx0 bx1 bx2 bx3 bx4 bxf bxl
  go_loopg [5, 12] 8 (fun gg ov iv wr => ∃ (k : Nat) (p : Option Addr) (n c : Nat), ov = .slice p n c ∧ iv = .int .i64 (k : Int) ∧ k ≤ 8 ∧ gg = 8 - k ∧ Hid (OwR wr w.heap.size 3 1 encI (.slice p n c) (cl x f k)) ∧ Hid (Blk w.heap.size (cdv x) 24 wr) ∧ Hid (Grew w wr))
  case atStart => exact ⟨0, none, 0, 0, rfl, rfl, by omega, rfl, Lib.hid (OwR.nil 1 encI _ _ _), BX, HB⟩
  case round =>
    clear BX HB
    obtain ⟨k, p, n, c, rfl, rfl, hk, rfl, HO, BX, HB⟩ := hrel
    by_cases hlt : k < 8
    · have tk0 := Lib.hid trivial
      have tk1 := Lib.hid trivial
      have tk2 := Lib.hid trivial
      have tk3 := Lib.hid trivial
      have hi0 := index0
      have hi1 := index1
      have hi2 := index2
      have HK := Lib.hid hlt
      have bx := BX.out; have bx0 := bx.cell 0; have bx1 := bx.cell 1; have bx2 := bx.cell 2; have bx3 := bx.cell 3; have bx4 := bx.cell 4; have bxf := bx.free; have bxl := bx.lt; simp only [List.getElem?_cons_zero, List.getElem?_cons_succ] at bx0 bx1 bx2 bx3 bx4 bxl
      clear BX
      obtain ⟨ea, ha⟩ : ∃ e, (x.a == (k : Int)) = e := ⟨_, rfl⟩
      obtain ⟨eb, hb⟩ : ∃ e, (x.b == (k : Int)) = e := ⟨_, rfl⟩
      obtain ⟨ec, hc⟩ : ∃ e, (x.c == (k : Int)) = e := ⟨_, rfl⟩
      have HA := Lib.hid ha; have HB2 := Lib.hid hb; have HC2 := Lib.hid hc
      cases ea <;> cases eb <;> cases ec
      all_goals go_wp2_with (first
        | (go_at_call 36; clear tk0; (with_reducible refine (registersOf_any x _).mono ?_); rintro e w6 ⟨rfl, g1⟩; clear bx0 bx1 bx2 bx3 bx4 bxf bxl; replace bx := bx.grew g1; replace HO := Lib.hid (HO.out.grew g1); replace HB := Lib.hid (HB.out.trans g1); clear g1; have bx0 := bx.cell 0; have bx1 := bx.cell 1; have bx2 := bx.cell 2; have bx3 := bx.cell 3; have bx4 := bx.cell 4; have bxf := bx.free; have bxl := bx.lt; simp only [List.getElem?_cons_zero, List.getElem?_cons_succ] at bx0 bx1 bx2 bx3 bx4 bxl)
        | (go_at_call 38; clear tk1; (with_reducible refine (contains_f0 f hf _).mono ?_); rintro e w7 ⟨rfl, g1⟩; clear bx0 bx1 bx2 bx3 bx4 bxf bxl; replace bx := bx.grew g1; replace HO := Lib.hid (HO.out.grew g1); replace HB := Lib.hid (HB.out.trans g1); clear g1; have bx0 := bx.cell 0; have bx1 := bx.cell 1; have bx2 := bx.cell 2; have bx3 := bx.cell 3; have bx4 := bx.cell 4; have bxf := bx.free; have bxl := bx.lt; simp only [List.getElem?_cons_zero, List.getElem?_cons_succ] at bx0 bx1 bx2 bx3 bx4 bxl)
        | (go_at_call 38; clear tk2; (with_reducible refine (contains_f1 f hf _).mono ?_); rintro e w8 ⟨rfl, g1⟩; clear bx0 bx1 bx2 bx3 bx4 bxf bxl; replace bx := bx.grew g1; replace HO := Lib.hid (HO.out.grew g1); replace HB := Lib.hid (HB.out.trans g1); clear g1; have bx0 := bx.cell 0; have bx1 := bx.cell 1; have bx2 := bx.cell 2; have bx3 := bx.cell 3; have bx4 := bx.cell 4; have bxf := bx.free; have bxl := bx.lt; simp only [List.getElem?_cons_zero, List.getElem?_cons_succ] at bx0 bx1 bx2 bx3 bx4 bxl)
        | (go_at_call 38; clear tk3; (with_reducible refine (contains_f2 f hf _).mono ?_); rintro e w9 ⟨rfl, g1⟩; clear bx0 bx1 bx2 bx3 bx4 bxf bxl; replace bx := bx.grew g1; replace HO := Lib.hid (HO.out.grew g1); replace HB := Lib.hid (HB.out.trans g1); clear g1; have bx0 := bx.cell 0; have bx1 := bx.cell 1; have bx2 := bx.cell 2; have bx3 := bx.cell 3; have bx4 := bx.cell 4; have bxf := bx.free; have bxl := bx.lt; simp only [List.getElem?_cons_zero, List.getElem?_cons_succ] at bx0 bx1 bx2 bx3 bx4 bxl)
        | (at_builtin; generalize hW : World.alloc _ _ = V; have hlit : Rw 1 encI V (some ⟨w7.heap.size, 0, none⟩) 1 [(k : Int)] := (by subst hW; exact Rw.made encIE _ [(k : Int)] 1 _ _ _ rfl rfl (by omega)); clear bxf bxl bx0 bx1 bx2 bx3 bx4; replace bx : Blk (w.heap.size) [.int .i64 x.op, .int .i64 x.a, .int .i64 x.b, .int .i64 x.c, .int .i16 x.i] 24 V := (by subst hW; exact bx.grew ((Grew.refl _).alloc _)); replace HO := Lib.hid (show OwR V _ _ _ _ _ _ from (by subst hW; exact HO.out.kept ((Grew.refl _).alloc _))); replace HB : Hid (Grew w V) := Lib.hid (by subst hW; exact HB.out.alloc _); clear hW; refine wpList_append_row encIE rfl _ _ 40 rfl w.heap.size 3 (.int .i64 0) 8 Tryd.underlying40 infoI rfl _ (cl x f k) rfl HO.out _ 1 1 [(k : Int)] rfl rfl hlit (by have := cl_len x f k; simp <;> omega) (by have := cl_len x f k; simp <;> omega) HB.out.sz ?_; intro p2 c2 zs2 w9 hz2 ho2 hb2 hc2; replace bx := bx.chg hc2 (fun hs => HO.out.apart (by decide) bx hs); replace HB : Hid (Grew w w9) := Lib.hid (Below.trans HB.out hb2); have HO2 := Lib.hid ho2; have HZ := hz2; clear ho2 hz2 HO; clear hb2 hc2 hlit;  have bx0 := bx.cell 0; have bx1 := bx.cell 1; have bx2 := bx.cell 2; have bx3 := bx.cell 3; have bx4 := bx.cell 4; have bxf := bx.free; have bxl := bx.lt; simp only [List.getElem?_cons_zero, List.getElem?_cons_succ] at bx0 bx1 bx2 bx3 bx4 bxl)
        | (at_builtin; generalize hW : World.alloc _ _ = V; have hlit : Rw 1 encI V (some ⟨w8.heap.size, 0, none⟩) 1 [(k : Int)] := (by subst hW; exact Rw.made encIE _ [(k : Int)] 1 _ _ _ rfl rfl (by omega)); clear bxf bxl bx0 bx1 bx2 bx3 bx4; replace bx : Blk (w.heap.size) [.int .i64 x.op, .int .i64 x.a, .int .i64 x.b, .int .i64 x.c, .int .i16 x.i] 24 V := (by subst hW; exact bx.grew ((Grew.refl _).alloc _)); replace HO := Lib.hid (show OwR V _ _ _ _ _ _ from (by subst hW; exact HO.out.kept ((Grew.refl _).alloc _))); replace HB : Hid (Grew w V) := Lib.hid (by subst hW; exact HB.out.alloc _); clear hW; refine wpList_append_row encIE rfl _ _ 40 rfl w.heap.size 3 (.int .i64 0) 8 Tryd.underlying40 infoI rfl _ (cl x f k) rfl HO.out _ 1 1 [(k : Int)] rfl rfl hlit (by have := cl_len x f k; simp <;> omega) (by have := cl_len x f k; simp <;> omega) HB.out.sz ?_; intro p2 c2 zs2 w9 hz2 ho2 hb2 hc2; replace bx := bx.chg hc2 (fun hs => HO.out.apart (by decide) bx hs); replace HB : Hid (Grew w w9) := Lib.hid (Below.trans HB.out hb2); have HO2 := Lib.hid ho2; have HZ := hz2; clear ho2 hz2 HO; clear hb2 hc2 hlit;  have bx0 := bx.cell 0; have bx1 := bx.cell 1; have bx2 := bx.cell 2; have bx3 := bx.cell 3; have bx4 := bx.cell 4; have bxf := bx.free; have bxl := bx.lt; simp only [List.getElem?_cons_zero, List.getElem?_cons_succ] at bx0 bx1 bx2 bx3 bx4 bxl)
        | (at_builtin; generalize hW : World.alloc _ _ = V; have hlit : Rw 1 encI V (some ⟨w9.heap.size, 0, none⟩) 1 [(k : Int)] := (by subst hW; exact Rw.made encIE _ [(k : Int)] 1 _ _ _ rfl rfl (by omega)); clear bxf bxl bx0 bx1 bx2 bx3 bx4; replace bx : Blk (w.heap.size) [.int .i64 x.op, .int .i64 x.a, .int .i64 x.b, .int .i64 x.c, .int .i16 x.i] 24 V := (by subst hW; exact bx.grew ((Grew.refl _).alloc _)); replace HO := Lib.hid (show OwR V _ _ _ _ _ _ from (by subst hW; exact HO.out.kept ((Grew.refl _).alloc _))); replace HB : Hid (Grew w V) := Lib.hid (by subst hW; exact HB.out.alloc _); clear hW; refine wpList_append_row encIE rfl _ _ 40 rfl w.heap.size 3 (.int .i64 0) 8 Tryd.underlying40 infoI rfl _ (cl x f k) rfl HO.out _ 1 1 [(k : Int)] rfl rfl hlit (by have := cl_len x f k; simp <;> omega) (by have := cl_len x f k; simp <;> omega) HB.out.sz ?_; intro p2 c2 zs2 w9 hz2 ho2 hb2 hc2; replace bx := bx.chg hc2 (fun hs => HO.out.apart (by decide) bx hs); replace HB : Hid (Grew w w9) := Lib.hid (Below.trans HB.out hb2); have HO2 := Lib.hid ho2; have HZ := hz2; clear ho2 hz2 HO; clear hb2 hc2 hlit;  have bx0 := bx.cell 0; have bx1 := bx.cell 1; have bx2 := bx.cell 2; have bx3 := bx.cell 3; have bx4 := bx.cell 4; have bxf := bx.free; have bxl := bx.lt; simp only [List.getElem?_cons_zero, List.getElem?_cons_succ] at bx0 bx1 bx2 bx3 bx4 bxl))
      all_goals refine wp_loop_rounds 4 ?_
      repeat any_goals (rw [rounds_succ]; go_wp2_with (first
        | (go_at_call 36; clear tk0; (with_reducible refine (registersOf_any x _).mono ?_); rintro e w6 ⟨rfl, g1⟩; clear bx0 bx1 bx2 bx3 bx4 bxf bxl; replace bx := bx.grew g1; replace HO := Lib.hid (HO.out.grew g1); replace HB := Lib.hid (HB.out.trans g1); clear g1; have bx0 := bx.cell 0; have bx1 := bx.cell 1; have bx2 := bx.cell 2; have bx3 := bx.cell 3; have bx4 := bx.cell 4; have bxf := bx.free; have bxl := bx.lt; simp only [List.getElem?_cons_zero, List.getElem?_cons_succ] at bx0 bx1 bx2 bx3 bx4 bxl)
        | (go_at_call 38; clear tk1; (with_reducible refine (contains_f0 f hf _).mono ?_); rintro e w7 ⟨rfl, g1⟩; clear bx0 bx1 bx2 bx3 bx4 bxf bxl; replace bx := bx.grew g1; replace HO := Lib.hid (HO.out.grew g1); replace HB := Lib.hid (HB.out.trans g1); clear g1; have bx0 := bx.cell 0; have bx1 := bx.cell 1; have bx2 := bx.cell 2; have bx3 := bx.cell 3; have bx4 := bx.cell 4; have bxf := bx.free; have bxl := bx.lt; simp only [List.getElem?_cons_zero, List.getElem?_cons_succ] at bx0 bx1 bx2 bx3 bx4 bxl)
        | (go_at_call 38; clear tk2; (with_reducible refine (contains_f1 f hf _).mono ?_); rintro e w8 ⟨rfl, g1⟩; clear bx0 bx1 bx2 bx3 bx4 bxf bxl; replace bx := bx.grew g1; replace HO := Lib.hid (HO.out.grew g1); replace HB := Lib.hid (HB.out.trans g1); clear g1; have bx0 := bx.cell 0; have bx1 := bx.cell 1; have bx2 := bx.cell 2; have bx3 := bx.cell 3; have bx4 := bx.cell 4; have bxf := bx.free; have bxl := bx.lt; simp only [List.getElem?_cons_zero, List.getElem?_cons_succ] at bx0 bx1 bx2 bx3 bx4 bxl)
        | (go_at_call 38; clear tk3; (with_reducible refine (contains_f2 f hf _).mono ?_); rintro e w9 ⟨rfl, g1⟩; clear bx0 bx1 bx2 bx3 bx4 bxf bxl; replace bx := bx.grew g1; replace HO := Lib.hid (HO.out.grew g1); replace HB := Lib.hid (HB.out.trans g1); clear g1; have bx0 := bx.cell 0; have bx1 := bx.cell 1; have bx2 := bx.cell 2; have bx3 := bx.cell 3; have bx4 := bx.cell 4; have bxf := bx.free; have bxl := bx.lt; simp only [List.getElem?_cons_zero, List.getElem?_cons_succ] at bx0 bx1 bx2 bx3 bx4 bxl)
        | (at_builtin; generalize hW : World.alloc _ _ = V; have hlit : Rw 1 encI V (some ⟨w7.heap.size, 0, none⟩) 1 [(k : Int)] := (by subst hW; exact Rw.made encIE _ [(k : Int)] 1 _ _ _ rfl rfl (by omega)); clear bxf bxl bx0 bx1 bx2 bx3 bx4; replace bx : Blk (w.heap.size) [.int .i64 x.op, .int .i64 x.a, .int .i64 x.b, .int .i64 x.c, .int .i16 x.i] 24 V := (by subst hW; exact bx.grew ((Grew.refl _).alloc _)); replace HO := Lib.hid (show OwR V _ _ _ _ _ _ from (by subst hW; exact HO.out.kept ((Grew.refl _).alloc _))); replace HB : Hid (Grew w V) := Lib.hid (by subst hW; exact HB.out.alloc _); clear hW; refine wpList_append_row encIE rfl _ _ 40 rfl w.heap.size 3 (.int .i64 0) 8 Tryd.underlying40 infoI rfl _ (cl x f k) rfl HO.out _ 1 1 [(k : Int)] rfl rfl hlit (by have := cl_len x f k; simp <;> omega) (by have := cl_len x f k; simp <;> omega) HB.out.sz ?_; intro p2 c2 zs2 w9 hz2 ho2 hb2 hc2; replace bx := bx.chg hc2 (fun hs => HO.out.apart (by decide) bx hs); replace HB : Hid (Grew w w9) := Lib.hid (Below.trans HB.out hb2); have HO2 := Lib.hid ho2; have HZ := hz2; clear ho2 hz2 HO; clear hb2 hc2 hlit;  have bx0 := bx.cell 0; have bx1 := bx.cell 1; have bx2 := bx.cell 2; have bx3 := bx.cell 3; have bx4 := bx.cell 4; have bxf := bx.free; have bxl := bx.lt; simp only [List.getElem?_cons_zero, List.getElem?_cons_succ] at bx0 bx1 bx2 bx3 bx4 bxl)
        | (at_builtin; generalize hW : World.alloc _ _ = V; have hlit : Rw 1 encI V (some ⟨w8.heap.size, 0, none⟩) 1 [(k : Int)] := (by subst hW; exact Rw.made encIE _ [(k : Int)] 1 _ _ _ rfl rfl (by omega)); clear bxf bxl bx0 bx1 bx2 bx3 bx4; replace bx : Blk (w.heap.size) [.int .i64 x.op, .int .i64 x.a, .int .i64 x.b, .int .i64 x.c, .int .i16 x.i] 24 V := (by subst hW; exact bx.grew ((Grew.refl _).alloc _)); replace HO := Lib.hid (show OwR V _ _ _ _ _ _ from (by subst hW; exact HO.out.kept ((Grew.refl _).alloc _))); replace HB : Hid (Grew w V) := Lib.hid (by subst hW; exact HB.out.alloc _); clear hW; refine wpList_append_row encIE rfl _ _ 40 rfl w.heap.size 3 (.int .i64 0) 8 Tryd.underlying40 infoI rfl _ (cl x f k) rfl HO.out _ 1 1 [(k : Int)] rfl rfl hlit (by have := cl_len x f k; simp <;> omega) (by have := cl_len x f k; simp <;> omega) HB.out.sz ?_; intro p2 c2 zs2 w9 hz2 ho2 hb2 hc2; replace bx := bx.chg hc2 (fun hs => HO.out.apart (by decide) bx hs); replace HB : Hid (Grew w w9) := Lib.hid (Below.trans HB.out hb2); have HO2 := Lib.hid ho2; have HZ := hz2; clear ho2 hz2 HO; clear hb2 hc2 hlit;  have bx0 := bx.cell 0; have bx1 := bx.cell 1; have bx2 := bx.cell 2; have bx3 := bx.cell 3; have bx4 := bx.cell 4; have bxf := bx.free; have bxl := bx.lt; simp only [List.getElem?_cons_zero, List.getElem?_cons_succ] at bx0 bx1 bx2 bx3 bx4 bxl)
        | (at_builtin; generalize hW : World.alloc _ _ = V; have hlit : Rw 1 encI V (some ⟨w9.heap.size, 0, none⟩) 1 [(k : Int)] := (by subst hW; exact Rw.made encIE _ [(k : Int)] 1 _ _ _ rfl rfl (by omega)); clear bxf bxl bx0 bx1 bx2 bx3 bx4; replace bx : Blk (w.heap.size) [.int .i64 x.op, .int .i64 x.a, .int .i64 x.b, .int .i64 x.c, .int .i16 x.i] 24 V := (by subst hW; exact bx.grew ((Grew.refl _).alloc _)); replace HO := Lib.hid (show OwR V _ _ _ _ _ _ from (by subst hW; exact HO.out.kept ((Grew.refl _).alloc _))); replace HB : Hid (Grew w V) := Lib.hid (by subst hW; exact HB.out.alloc _); clear hW; refine wpList_append_row encIE rfl _ _ 40 rfl w.heap.size 3 (.int .i64 0) 8 Tryd.underlying40 infoI rfl _ (cl x f k) rfl HO.out _ 1 1 [(k : Int)] rfl rfl hlit (by have := cl_len x f k; simp <;> omega) (by have := cl_len x f k; simp <;> omega) HB.out.sz ?_; intro p2 c2 zs2 w9 hz2 ho2 hb2 hc2; replace bx := bx.chg hc2 (fun hs => HO.out.apart (by decide) bx hs); replace HB : Hid (Grew w w9) := Lib.hid (Below.trans HB.out hb2); have HO2 := Lib.hid ho2; have HZ := hz2; clear ho2 hz2 HO; clear hb2 hc2 hlit;  have bx0 := bx.cell 0; have bx1 := bx.cell 1; have bx2 := bx.cell 2; have bx3 := bx.cell 3; have bx4 := bx.cell 4; have bxf := bx.free; have bxl := bx.lt; simp only [List.getElem?_cons_zero, List.getElem?_cons_succ] at bx0 bx1 bx2 bx3 bx4 bxl)))
      all_goals clear hi0 hi1 hi2 ha hb hc
      all_goals (go_roundg (8 - (k + 1)); (case measure => have := HK.out; omega))
      all_goals first
        | (case rel => exact ⟨k + 1, _, _, _, rfl, (by go_num), HK.out, rfl, Lib.hid (by rw [cl_no x f k (by simp [pr, HA.out, HB2.out, HC2.out, *])]; exact HO.out), Lib.hid bx, HB⟩)
        | (case rel => exact ⟨k + 1, _, _, _, rfl, (by go_num), HK.out, rfl, Lib.hid (by rw [cl_yes x f k (by simp [pr, HA.out, HB2.out, HC2.out, *]), ← HZ.out]; exact HO2.out), Lib.hid bx, HB⟩)
    · obtain rfl : k = 8 := by omega
      obtain ⟨hn, hR⟩ := HO.out.rd encIE
      have HR := Lib.hid hR
      subst hn
      clear hR
      go_wp2
      go_ret
      exact ⟨p, c, rfl, HR.out, HB.out⟩
/-- The registers of a list, ascending. -/
def sl (xs : List Int) (k : Nat) : List Int := (rgs k).filter fun z => xs.contains z
theorem sl_len (xs : List Int) (k : Nat) : (sl xs k).length ≤ k := Nat.le_trans (List.length_filter_le _ _) (by unfold rgs; simp)
theorem sl_yes (xs : List Int) (k : Nat) (h : xs.contains (k : Int) = true) : sl xs (k + 1) = sl xs k ++ [(k : Int)] := by unfold sl; rw [rgs_succ, List.filter_append, List.filter_cons_of_pos h]; rfl
theorem sl_no (xs : List Int) (k : Nat) (h : xs.contains (k : Int) = false) : sl xs (k + 1) = sl xs k := by unfold sl; rw [rgs_succ, List.filter_append, List.filter_cons_of_neg (by rw [h]; decide)]; simp
set_option maxHeartbeats 8000000 in
theorem set_any (p : Option Addr) (n c : Nat) (xs : List Int) (w : World) (h : Rw 1 encI w p c xs) (hn : xs.length = n) (hl : n ≤ 1000) :
    Calls Tryd.prog 56 #[.slice p n c] w fun e w' => ∃ p' c', e = .returned (.slice p' (sl xs 8).length c') ∧ Rw 1 encI w' p' c' (sl xs 8) ∧ Grew w w' := by
  subst hn
  have HX := Lib.hid h
  have hcap := h.cap
  have hmax := h.max
  clear h
  go_enter Tryd.func56, Tryd.ntmps56
  go_wp2
  go_loopg [3, 4] 8 (fun gg ov iv wr => ∃ (k : Nat) (p1 : Option Addr) (n1 c1 : Nat), ov = .slice p1 n1 c1 ∧ iv = .int .i64 (k : Int) ∧ k ≤ 8 ∧ gg = 8 - k ∧ Hid (OwR wr w.heap.size 3 1 encI (.slice p1 n1 c1) (sl xs k)) ∧ Hid (Grew w wr))
  case atStart => exact ⟨0, none, 0, 0, rfl, rfl, by omega, rfl, Lib.hid (OwR.nil 1 encI _ _ _), Lib.hid (Grew.refl _)⟩
  case round =>
    obtain ⟨k, p1, n1, c1, rfl, rfl, hk, rfl, HO, HB⟩ := hrel
    by_cases hlt : k < 8
    · have HK := Lib.hid hlt
      obtain ⟨wo, hwo⟩ : ∃ wo : World, wo = wr := ⟨_, rfl⟩
      subst hwo
      go_wp2
      go_loopg [5, 6] xs.length (fun gg fv iv wr => ∃ (j : Nat) (fb : Bool), fv = .bool fb ∧ iv = .int .i64 (j : Int) ∧ j ≤ xs.length ∧ gg = xs.length - j ∧ Hid ((xs.take j).contains (k : Int) = fb) ∧ wr = wo)
      case atStart => exact ⟨0, false, rfl, rfl, Nat.zero_le _, rfl, Lib.hid (by simp), rfl⟩
      case round =>
        obtain ⟨j, fb, rfl, rfl, hj, rfl, HF, rfl⟩ := hrel
        by_cases hjl : j < xs.length
        · obtain ⟨b1, o1, rfl, hc1⟩ := (HX.out.kept HB.out).rd.cells (by omega)
          have d0 : wr.cell? ⟨b1, o1 + j, none⟩ = some (.int .i64 xs[j]) := by have := hc1 j xs[j] (by simp [hjl]) 0 _ rfl; rwa [Nat.add_zero, Nat.mul_one] at this
          have HT := Lib.hid (List.take_succ_eq_append_getElem hjl)
          have HJ := Lib.hid hjl
          clear hc1
          generalize xs[j] = z at d0 HT
          by_cases hz : z = (k : Int)
          · have h1 : (z == (k : Int)) = true := by simpa using hz
            have HZ := Lib.hid hz
            clear hz
            go_wp2
            go_roundg (xs.length - (j + 1))
            case measure => have := HJ.out; omega
            case rel => exact ⟨j + 1, true, rfl, by go_num, HJ.out, rfl, Lib.hid (by rw [HT.out, HZ.out]; simp), rfl⟩
          · have h1 : (z == (k : Int)) = false := by simpa using hz
            have HZ := Lib.hid (show ¬ (k : Int) = z from fun e => hz e.symm)
            clear hz
            go_wp2
            go_roundg (xs.length - (j + 1))
            case measure => have := HJ.out; omega
            case rel => exact ⟨j + 1, fb, rfl, by go_num, HJ.out, rfl, Lib.hid (by rw [HT.out, ← HF.out, Bool.eq_iff_iff]; simp [HZ.out]), rfl⟩
        · obtain rfl : j = xs.length := by omega
          rw [List.take_length] at HF
          cases fb
          · go_wp2
            go_roundg (8 - (k + 1))
            case measure => have := HK.out; omega
            case rel => exact ⟨k + 1, p1, n1, c1, rfl, by go_num, HK.out, rfl, Lib.hid (by rw [sl_no xs k HF.out]; exact HO.out), HB⟩
          · go_wp2_with (at_builtin; generalize hW : World.alloc _ _ = V; have hlit : Rw 1 encI V (some ⟨wr.heap.size, 0, none⟩) 1 [(k : Int)] := (by subst hW; exact Rw.made encIE _ [(k : Int)] 1 _ _ _ rfl rfl (by omega)); replace HO := Lib.hid (show OwR V _ _ _ _ _ _ from (by subst hW; exact HO.out.kept ((Grew.refl _).alloc _))); replace HB : Hid (Grew w V) := Lib.hid (by subst hW; exact HB.out.alloc _); clear hW; refine wpList_append_row encIE rfl _ _ 40 rfl w.heap.size 3 (.int .i64 0) 8 Tryd.underlying40 infoI rfl _ (sl xs k) rfl HO.out _ 1 1 [(k : Int)] rfl rfl hlit (by have := sl_len xs k; simp <;> omega) (by have := sl_len xs k; simp <;> omega) HB.out.sz ?_; intro p2 c2 zs2 w9 hz2 ho2 hb2 hc2; replace HB : Hid (Grew w w9) := Lib.hid (Below.trans HB.out hb2); have HO2 := Lib.hid ho2; have HZ := hz2; clear ho2 hz2 HO; clear hb2 hc2 hlit)
            go_roundg (8 - (k + 1))
            case measure => have := HK.out; omega
            case rel => exact ⟨k + 1, _, _, _, rfl, by go_num, HK.out, rfl, Lib.hid (by rw [sl_yes xs k HF.out, ← HZ.out]; exact HO2.out), HB⟩
    · obtain rfl : k = 8 := by omega
      obtain ⟨hn, hR⟩ := HO.out.rd encIE
      have HR := Lib.hid hR
      subst hn
      clear hR
      go_wp2
      go_ret
      exact ⟨p1, c1, rfl, HR.out, HB.out⟩
end Go.Proofs.YtddffijipphfeaaDoor
