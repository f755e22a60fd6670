/-
  LAYER 11 (isa): slices of integers; Next of the program and of the reference.
-/
import Derived.Test.YtddffijipphfeaaDoorIsaLaws1
namespace Go.Proofs.YtddffijipphfeaaDoor
open Go Go.RowKit Go.IntWalk
set_option linter.unusedSimpArgs false
set_option linter.unusedVariables false
set_option maxRecDepth 8000
section
variable {dst : Option Tmp} {ty : TypeId} {pos : String} {after : Array Edge} {g : Option (Nat × Bool)} {a : Act} {w : World} {T : Value → World → Prop}
end

abbrev encI (z : Int) : List Value := [.int .i64 z]
theorem encIE : Enc 1 encI := ⟨fun _ => rfl, fun x u hu => by simp at hu; rcases hu with rfl; rfl, by decide⟩
/-- Where execution can continue. -/
def nexts (x : Cd) (pc : Int) : List Int :=
  if valid x = false then [] else if pc < 0 ∨ 480 ≤ pc then [] else if x.op = 1 then [] else if x.op = 21 then [x.i] else if x.op = 22 ∧ x.i ≠ pc + 1 then (if x.i < pc + 1 then [x.i, pc + 1] else [pc + 1, x.i]) else [pc + 1]
set_option maxHeartbeats 2000000 in
theorem same_self (p : Option Addr) (n c : Nat) (q : Option Addr) (m d : Nat) (xs : List Int) (w : World) (h : Rw 1 encI w p c xs) (hn : xs.length = n) (h' : Rw 1 encI w q d xs) (hm : xs.length = m) :
    Calls Tryd.prog 28 #[.slice p n c, .slice q m d] w fun e w' => e = .returned (.bool true) ∧ Grew w w' := by
  subst hn hm
  have HX := Lib.hid h
  have HY := Lib.hid h'
  have hcap := h.cap
  have hmax := h.max
  clear h h'
  go_enter Tryd.func28, Tryd.ntmps28
  go_wp2
  go_loopg [5] xs.length (fun gg iv wr => ∃ (k : Nat), iv = .int .i64 (k : Int) ∧ k ≤ xs.length ∧ gg = xs.length - k ∧ Hid (Grew w wr))
  case atStart => exact ⟨0, rfl, Nat.zero_le _, rfl, Lib.hid (Grew.refl _)⟩
  case round =>
    obtain ⟨k, rfl, hk, rfl, HG⟩ := hrel
    by_cases hlt : k < xs.length
    · obtain ⟨b1, o1, rfl, hc1⟩ := (HX.out.kept HG.out).rd.cells (by omega)
      obtain ⟨b2, o2, rfl, hc2⟩ := (HY.out.kept HG.out).rd.cells (by omega)
      have d0 : wr.cell? ⟨b1, o1 + k, none⟩ = some (.int .i64 xs[k]) := by have := hc1 k xs[k] (by simp [hlt]) 0 _ rfl; rwa [Nat.add_zero, Nat.mul_one] at this
      have e0 : wr.cell? ⟨b2, o2 + k, none⟩ = some (.int .i64 xs[k]) := by have := hc2 k xs[k] (by simp [hlt]) 0 _ rfl; rwa [Nat.add_zero, Nat.mul_one] at this
      clear hc1 hc2
      have HLT := Lib.hid hlt
      generalize xs[k] = z at d0 e0
      go_wp2
      go_quiet (fail)
      go_wp2
      go_roundg (xs.length - (k + 1))
      case measure => have := HLT.out; omega
      case rel => exact ⟨k + 1, by go_num, HLT.out, rfl, Lib.hid (by repeat (first | with_reducible exact HG.out | with_reducible refine Grew.drw ?_ | with_reducible refine Grew.drwN ?_ _))⟩
    · go_wp2
      go_ret
      exact ⟨rfl, HG.out⟩
set_option maxHeartbeats 2000000 in
theorem next_a (x : Cd) (pc : Int) (hv : valid x = false) (hi : -32768 ≤ x.i ∧ x.i ≤ 32767)  (w : World) (hE : Env w) :
    Calls Tryd.prog 29 #[cdV x, .int .i64 pc] w fun e w' => ∃ p c xs, e = .returned (.slice p xs.length c) ∧ Hid (xs = nexts x pc) ∧ Rw 1 encI w' p c xs ∧ Grew w w'  := by
  have HN : Hid ([] = nexts x pc) := Lib.hid (by unfold nexts; rw [if_pos hv])
  have HV := Lib.hid hv
  have HI := Lib.hid hi
  have HE := Lib.hid hE
  have i1 := hi.1
  have i2 := hi.2
  clear hv hi hE 
  have HB := Lib.hid (Grew.refl w)
  have tk0 := Lib.hid trivial
  go_enter Tryd.func29, Tryd.ntmps29
  go_wp2_with (first
    | (go_at_call 12; clear tk0; generalize hW : World.alloc _ _ = V; have bx : Blk (w.heap.size) [.int .i64 x.op, .int .i64 x.a, .int .i64 x.b, .int .i64 x.c, .int .i16 x.i] 24 V := (by subst hW; exact Blk.grew (w := (w.alloc (.cells #[.int .i64 x.op, .int .i64 x.a, .int .i64 x.b, .int .i64 x.c, .int .i16 x.i] 24))) (by simpa using Blk.new w [.int .i64 x.op, .int .i64 x.a, .int .i64 x.b, .int .i64 x.c, .int .i16 x.i] 24) (by repeat (first | with_reducible exact Grew.refl _ | with_reducible refine Grew.alloc ?_ _ | with_reducible refine Grew.drw ?_ | with_reducible refine Grew.drwN ?_ _ | with_reducible refine Grew.sc ?_ (by first | omega | (simp <;> omega)) _ _))); replace HB : Hid (Grew w V) := Lib.hid (by subst hW; repeat (first | with_reducible exact HB.out | with_reducible refine Grew.sc ?_ (by first | omega | (simp <;> omega)) _ _ | with_reducible refine Grew.alloc ?_ _ | with_reducible refine Grew.drw ?_ | with_reducible refine Grew.drwN ?_ _)); clear hW; (with_reducible refine (valid_is x _ false HV.out (HE.out.grew HB.out)).mono ?_); rintro e w1 ⟨rfl, g1⟩; replace bx := bx.grew g1; replace HB := Lib.hid (HB.out.trans g1); clear g1; have bx0 := bx.cell 0; have bx1 := bx.cell 1; have bx2 := bx.cell 2; have bx3 := bx.cell 3; have bx4 := bx.cell 4; have bxf := bx.free; have bxl := bx.lt; simp only [List.getElem?_cons_zero, List.getElem?_cons_succ] at bx0 bx1 bx2 bx3 bx4 bxl))
  all_goals (go_ret; exact ⟨_, _, [], rfl, HN, Rw.nil _ _ _, by repeat (first | with_reducible exact HB.out | with_reducible refine Grew.alloc ?_ _ | with_reducible refine Grew.drw ?_ | with_reducible refine Grew.drwN ?_ _ | with_reducible refine Grew.sc ?_ (by first | omega | (simp <;> omega)) _ _)⟩)
set_option maxHeartbeats 2000000 in
theorem next_b (x : Cd) (pc : Int) (hv : valid x = true) (hi : -32768 ≤ x.i ∧ x.i ≤ 32767) (g0 : pc < 0 ∨ 480 ≤ pc) (w : World) (hE : Env w) :
    Calls Tryd.prog 29 #[cdV x, .int .i64 pc] w fun e w' => ∃ p c xs, e = .returned (.slice p xs.length c) ∧ Hid (xs = nexts x pc) ∧ Rw 1 encI w' p c xs ∧ Grew w w'  := by
  have HN : Hid ([] = nexts x pc) := Lib.hid (by unfold nexts; rw [if_neg (by simp [hv]), if_pos (by omega)])
  have HV := Lib.hid hv
  have HI := Lib.hid hi
  have HE := Lib.hid hE
  have i1 := hi.1
  have i2 := hi.2
  clear hv hi hE 
  have HB := Lib.hid (Grew.refl w)
  have tk0 := Lib.hid trivial
  go_enter Tryd.func29, Tryd.ntmps29
  go_wp2_with (first
    | (go_at_call 12; clear tk0; generalize hW : World.alloc _ _ = V; have bx : Blk (w.heap.size) [.int .i64 x.op, .int .i64 x.a, .int .i64 x.b, .int .i64 x.c, .int .i16 x.i] 24 V := (by subst hW; exact Blk.grew (w := (w.alloc (.cells #[.int .i64 x.op, .int .i64 x.a, .int .i64 x.b, .int .i64 x.c, .int .i16 x.i] 24))) (by simpa using Blk.new w [.int .i64 x.op, .int .i64 x.a, .int .i64 x.b, .int .i64 x.c, .int .i16 x.i] 24) (by repeat (first | with_reducible exact Grew.refl _ | with_reducible refine Grew.alloc ?_ _ | with_reducible refine Grew.drw ?_ | with_reducible refine Grew.drwN ?_ _ | with_reducible refine Grew.sc ?_ (by first | omega | (simp <;> omega)) _ _))); replace HB : Hid (Grew w V) := Lib.hid (by subst hW; repeat (first | with_reducible exact HB.out | with_reducible refine Grew.sc ?_ (by first | omega | (simp <;> omega)) _ _ | with_reducible refine Grew.alloc ?_ _ | with_reducible refine Grew.drw ?_ | with_reducible refine Grew.drwN ?_ _)); clear hW; (with_reducible refine (valid_is x _ true HV.out (HE.out.grew HB.out)).mono ?_); rintro e w1 ⟨rfl, g1⟩; replace bx := bx.grew g1; replace HB := Lib.hid (HB.out.trans g1); clear g1; have bx0 := bx.cell 0; have bx1 := bx.cell 1; have bx2 := bx.cell 2; have bx3 := bx.cell 3; have bx4 := bx.cell 4; have bxf := bx.free; have bxl := bx.lt; simp only [List.getElem?_cons_zero, List.getElem?_cons_succ] at bx0 bx1 bx2 bx3 bx4 bxl))
  all_goals (go_ret; exact ⟨_, _, [], rfl, HN, Rw.nil _ _ _, by repeat (first | with_reducible exact HB.out | with_reducible refine Grew.alloc ?_ _ | with_reducible refine Grew.drw ?_ | with_reducible refine Grew.drwN ?_ _ | with_reducible refine Grew.sc ?_ (by first | omega | (simp <;> omega)) _ _)⟩)
set_option maxHeartbeats 2000000 in
theorem next_c (x : Cd) (pc : Int) (hv : valid x = true) (hi : -32768 ≤ x.i ∧ x.i ≤ 32767) (g0 : 0 ≤ pc) (g1 : pc < 480) (g2 : x.op = 1) (w : World) (hE : Env w) :
    Calls Tryd.prog 29 #[cdV x, .int .i64 pc] w fun e w' => ∃ p c xs, e = .returned (.slice p xs.length c) ∧ Hid (xs = nexts x pc) ∧ Rw 1 encI w' p c xs ∧ Grew w w'  := by
  have HN : Hid ([] = nexts x pc) := Lib.hid (by unfold nexts; rw [if_neg (by simp [hv]), if_neg (by omega), if_pos (by omega)])
  have HV := Lib.hid hv
  have HI := Lib.hid hi
  have HE := Lib.hid hE
  have i1 := hi.1
  have i2 := hi.2
  have f0 : (x.op == 1) = true := by simp; omega
  clear hv hi hE g2
  have HB := Lib.hid (Grew.refl w)
  have tk0 := Lib.hid trivial
  go_enter Tryd.func29, Tryd.ntmps29
  go_wp2_with (first
    | (go_at_call 12; clear tk0; generalize hW : World.alloc _ _ = V; have bx : Blk (w.heap.size) [.int .i64 x.op, .int .i64 x.a, .int .i64 x.b, .int .i64 x.c, .int .i16 x.i] 24 V := (by subst hW; exact Blk.grew (w := (w.alloc (.cells #[.int .i64 x.op, .int .i64 x.a, .int .i64 x.b, .int .i64 x.c, .int .i16 x.i] 24))) (by simpa using Blk.new w [.int .i64 x.op, .int .i64 x.a, .int .i64 x.b, .int .i64 x.c, .int .i16 x.i] 24) (by repeat (first | with_reducible exact Grew.refl _ | with_reducible refine Grew.alloc ?_ _ | with_reducible refine Grew.drw ?_ | with_reducible refine Grew.drwN ?_ _ | with_reducible refine Grew.sc ?_ (by first | omega | (simp <;> omega)) _ _))); replace HB : Hid (Grew w V) := Lib.hid (by subst hW; repeat (first | with_reducible exact HB.out | with_reducible refine Grew.sc ?_ (by first | omega | (simp <;> omega)) _ _ | with_reducible refine Grew.alloc ?_ _ | with_reducible refine Grew.drw ?_ | with_reducible refine Grew.drwN ?_ _)); clear hW; (with_reducible refine (valid_is x _ true HV.out (HE.out.grew HB.out)).mono ?_); rintro e w1 ⟨rfl, g1⟩; replace bx := bx.grew g1; replace HB := Lib.hid (HB.out.trans g1); clear g1; have bx0 := bx.cell 0; have bx1 := bx.cell 1; have bx2 := bx.cell 2; have bx3 := bx.cell 3; have bx4 := bx.cell 4; have bxf := bx.free; have bxl := bx.lt; simp only [List.getElem?_cons_zero, List.getElem?_cons_succ] at bx0 bx1 bx2 bx3 bx4 bxl))
  go_quiet (fail)
  go_wp2
  all_goals (go_ret; exact ⟨_, _, [], rfl, HN, Rw.nil _ _ _, by repeat (first | with_reducible exact HB.out | with_reducible refine Grew.alloc ?_ _ | with_reducible refine Grew.drw ?_ | with_reducible refine Grew.drwN ?_ _ | with_reducible refine Grew.sc ?_ (by first | omega | (simp <;> omega)) _ _)⟩)
set_option maxHeartbeats 2000000 in
theorem next_d (x : Cd) (pc : Int) (hv : valid x = true) (hi : -32768 ≤ x.i ∧ x.i ≤ 32767) (g0 : 0 ≤ pc) (g1 : pc < 480) (g2 : x.op = 21) (w : World) (hE : Env w) :
    Calls Tryd.prog 29 #[cdV x, .int .i64 pc] w fun e w' => ∃ p c xs, e = .returned (.slice p xs.length c) ∧ Hid (xs = nexts x pc) ∧ Rw 1 encI w' p c xs ∧ Grew w w'  := by
  have HN : Hid ([x.i] = nexts x pc) := Lib.hid (by unfold nexts; rw [if_neg (by simp [hv]), if_neg (by omega), if_neg (by omega), if_pos (by omega)])
  have HV := Lib.hid hv
  have HI := Lib.hid hi
  have HE := Lib.hid hE
  have i1 := hi.1
  have i2 := hi.2
  have f0 : (x.op == 1) = false := by simp; omega
  have f1 : (x.op == 21) = true := by simp; omega
  clear hv hi hE g2
  have HB := Lib.hid (Grew.refl w)
  have tk0 := Lib.hid trivial
  go_enter Tryd.func29, Tryd.ntmps29
  go_wp2_with (first
    | (go_at_call 12; clear tk0; generalize hW : World.alloc _ _ = V; have bx : Blk (w.heap.size) [.int .i64 x.op, .int .i64 x.a, .int .i64 x.b, .int .i64 x.c, .int .i16 x.i] 24 V := (by subst hW; exact Blk.grew (w := (w.alloc (.cells #[.int .i64 x.op, .int .i64 x.a, .int .i64 x.b, .int .i64 x.c, .int .i16 x.i] 24))) (by simpa using Blk.new w [.int .i64 x.op, .int .i64 x.a, .int .i64 x.b, .int .i64 x.c, .int .i16 x.i] 24) (by repeat (first | with_reducible exact Grew.refl _ | with_reducible refine Grew.alloc ?_ _ | with_reducible refine Grew.drw ?_ | with_reducible refine Grew.drwN ?_ _ | with_reducible refine Grew.sc ?_ (by first | omega | (simp <;> omega)) _ _))); replace HB : Hid (Grew w V) := Lib.hid (by subst hW; repeat (first | with_reducible exact HB.out | with_reducible refine Grew.sc ?_ (by first | omega | (simp <;> omega)) _ _ | with_reducible refine Grew.alloc ?_ _ | with_reducible refine Grew.drw ?_ | with_reducible refine Grew.drwN ?_ _)); clear hW; (with_reducible refine (valid_is x _ true HV.out (HE.out.grew HB.out)).mono ?_); rintro e w1 ⟨rfl, g1⟩; replace bx := bx.grew g1; replace HB := Lib.hid (HB.out.trans g1); clear g1; have bx0 := bx.cell 0; have bx1 := bx.cell 1; have bx2 := bx.cell 2; have bx3 := bx.cell 3; have bx4 := bx.cell 4; have bxf := bx.free; have bxl := bx.lt; simp only [List.getElem?_cons_zero, List.getElem?_cons_succ] at bx0 bx1 bx2 bx3 bx4 bxl))
  go_quiet (fail)
  go_wp2
  all_goals (go_ret; exact ⟨_, _, [x.i], rfl, HN, Rw.made encIE _ [x.i] 1 _ _ _ (by first | rfl | (simp [flatL]; omega)) rfl (by decide), by repeat (first | with_reducible exact HB.out | with_reducible refine Grew.alloc ?_ _ | with_reducible refine Grew.drw ?_ | with_reducible refine Grew.drwN ?_ _ | with_reducible refine Grew.sc ?_ (by first | omega | (simp <;> omega)) _ _)⟩)
set_option maxHeartbeats 2000000 in
theorem next_e (x : Cd) (pc : Int) (hv : valid x = true) (hi : -32768 ≤ x.i ∧ x.i ≤ 32767) (g0 : 0 ≤ pc) (g1 : pc < 480) (g2 : x.op = 22) (g3 : x.i < pc + 1) (w : World) (hE : Env w) :
    Calls Tryd.prog 29 #[cdV x, .int .i64 pc] w fun e w' => ∃ p c xs, e = .returned (.slice p xs.length c) ∧ Hid (xs = nexts x pc) ∧ Rw 1 encI w' p c xs ∧ Grew w w'  := by
  have HN : Hid ([x.i, pc + 1] = nexts x pc) := Lib.hid (by unfold nexts; rw [if_neg (by simp [hv]), if_neg (by omega), if_neg (by omega), if_neg (by omega), if_pos (by omega), if_pos (by omega)])
  have HV := Lib.hid hv
  have HI := Lib.hid hi
  have HE := Lib.hid hE
  have i1 := hi.1
  have i2 := hi.2
  have f0 : (x.op == 1) = false := by simp; omega
  have f1 : (x.op == 21) = false := by simp; omega
  have f2 : (x.op == 22) = true := by simp; omega
  have f3 : (x.op != 22) = false := by simp; omega
  have f4 : (x.i != pc + 1) = true := by simp; omega
  have f5 : (x.i == pc + 1) = false := by simp; omega
  clear hv hi hE g2
  have HB := Lib.hid (Grew.refl w)
  have tk0 := Lib.hid trivial
  go_enter Tryd.func29, Tryd.ntmps29
  go_wp2_with (first
    | (go_at_call 12; clear tk0; generalize hW : World.alloc _ _ = V; have bx : Blk (w.heap.size) [.int .i64 x.op, .int .i64 x.a, .int .i64 x.b, .int .i64 x.c, .int .i16 x.i] 24 V := (by subst hW; exact Blk.grew (w := (w.alloc (.cells #[.int .i64 x.op, .int .i64 x.a, .int .i64 x.b, .int .i64 x.c, .int .i16 x.i] 24))) (by simpa using Blk.new w [.int .i64 x.op, .int .i64 x.a, .int .i64 x.b, .int .i64 x.c, .int .i16 x.i] 24) (by repeat (first | with_reducible exact Grew.refl _ | with_reducible refine Grew.alloc ?_ _ | with_reducible refine Grew.drw ?_ | with_reducible refine Grew.drwN ?_ _ | with_reducible refine Grew.sc ?_ (by first | omega | (simp <;> omega)) _ _))); replace HB : Hid (Grew w V) := Lib.hid (by subst hW; repeat (first | with_reducible exact HB.out | with_reducible refine Grew.sc ?_ (by first | omega | (simp <;> omega)) _ _ | with_reducible refine Grew.alloc ?_ _ | with_reducible refine Grew.drw ?_ | with_reducible refine Grew.drwN ?_ _)); clear hW; (with_reducible refine (valid_is x _ true HV.out (HE.out.grew HB.out)).mono ?_); rintro e w1 ⟨rfl, g1⟩; replace bx := bx.grew g1; replace HB := Lib.hid (HB.out.trans g1); clear g1; have bx0 := bx.cell 0; have bx1 := bx.cell 1; have bx2 := bx.cell 2; have bx3 := bx.cell 3; have bx4 := bx.cell 4; have bxf := bx.free; have bxl := bx.lt; simp only [List.getElem?_cons_zero, List.getElem?_cons_succ] at bx0 bx1 bx2 bx3 bx4 bxl))
  go_quiet (fail)
  go_wp2
  all_goals (go_ret; exact ⟨_, _, [x.i, pc + 1], rfl, HN, Rw.made encIE _ [x.i, pc + 1] 2 _ _ _ (by first | rfl | (simp [flatL]; omega)) rfl (by decide), by repeat (first | with_reducible exact HB.out | with_reducible refine Grew.alloc ?_ _ | with_reducible refine Grew.drw ?_ | with_reducible refine Grew.drwN ?_ _ | with_reducible refine Grew.sc ?_ (by first | omega | (simp <;> omega)) _ _)⟩)
set_option maxHeartbeats 2000000 in
theorem next_f (x : Cd) (pc : Int) (hv : valid x = true) (hi : -32768 ≤ x.i ∧ x.i ≤ 32767) (g0 : 0 ≤ pc) (g1 : pc < 480) (g2 : x.op = 22) (g3 : pc + 1 < x.i) (w : World) (hE : Env w) :
    Calls Tryd.prog 29 #[cdV x, .int .i64 pc] w fun e w' => ∃ p c xs, e = .returned (.slice p xs.length c) ∧ Hid (xs = nexts x pc) ∧ Rw 1 encI w' p c xs ∧ Grew w w'  := by
  have HN : Hid ([pc + 1, x.i] = nexts x pc) := Lib.hid (by unfold nexts; rw [if_neg (by simp [hv]), if_neg (by omega), if_neg (by omega), if_neg (by omega), if_pos (by omega), if_neg (by omega)])
  have HV := Lib.hid hv
  have HI := Lib.hid hi
  have HE := Lib.hid hE
  have i1 := hi.1
  have i2 := hi.2
  have f0 : (x.op == 1) = false := by simp; omega
  have f1 : (x.op == 21) = false := by simp; omega
  have f2 : (x.op == 22) = true := by simp; omega
  have f3 : (x.op != 22) = false := by simp; omega
  have f4 : (x.i != pc + 1) = true := by simp; omega
  have f5 : (x.i == pc + 1) = false := by simp; omega
  clear hv hi hE g2
  have HB := Lib.hid (Grew.refl w)
  have tk0 := Lib.hid trivial
  go_enter Tryd.func29, Tryd.ntmps29
  go_wp2_with (first
    | (go_at_call 12; clear tk0; generalize hW : World.alloc _ _ = V; have bx : Blk (w.heap.size) [.int .i64 x.op, .int .i64 x.a, .int .i64 x.b, .int .i64 x.c, .int .i16 x.i] 24 V := (by subst hW; exact Blk.grew (w := (w.alloc (.cells #[.int .i64 x.op, .int .i64 x.a, .int .i64 x.b, .int .i64 x.c, .int .i16 x.i] 24))) (by simpa using Blk.new w [.int .i64 x.op, .int .i64 x.a, .int .i64 x.b, .int .i64 x.c, .int .i16 x.i] 24) (by repeat (first | with_reducible exact Grew.refl _ | with_reducible refine Grew.alloc ?_ _ | with_reducible refine Grew.drw ?_ | with_reducible refine Grew.drwN ?_ _ | with_reducible refine Grew.sc ?_ (by first | omega | (simp <;> omega)) _ _))); replace HB : Hid (Grew w V) := Lib.hid (by subst hW; repeat (first | with_reducible exact HB.out | with_reducible refine Grew.sc ?_ (by first | omega | (simp <;> omega)) _ _ | with_reducible refine Grew.alloc ?_ _ | with_reducible refine Grew.drw ?_ | with_reducible refine Grew.drwN ?_ _)); clear hW; (with_reducible refine (valid_is x _ true HV.out (HE.out.grew HB.out)).mono ?_); rintro e w1 ⟨rfl, g1⟩; replace bx := bx.grew g1; replace HB := Lib.hid (HB.out.trans g1); clear g1; have bx0 := bx.cell 0; have bx1 := bx.cell 1; have bx2 := bx.cell 2; have bx3 := bx.cell 3; have bx4 := bx.cell 4; have bxf := bx.free; have bxl := bx.lt; simp only [List.getElem?_cons_zero, List.getElem?_cons_succ] at bx0 bx1 bx2 bx3 bx4 bxl))
  go_quiet (fail)
  go_wp2
  all_goals (go_ret; exact ⟨_, _, [pc + 1, x.i], rfl, HN, Rw.made encIE _ [pc + 1, x.i] 2 _ _ _ (by first | rfl | (simp [flatL]; omega)) rfl (by decide), by repeat (first | with_reducible exact HB.out | with_reducible refine Grew.alloc ?_ _ | with_reducible refine Grew.drw ?_ | with_reducible refine Grew.drwN ?_ _ | with_reducible refine Grew.sc ?_ (by first | omega | (simp <;> omega)) _ _)⟩)
set_option maxHeartbeats 2000000 in
theorem next_g (x : Cd) (pc : Int) (hv : valid x = true) (hi : -32768 ≤ x.i ∧ x.i ≤ 32767) (g0 : 0 ≤ pc) (g1 : pc < 480) (g2 : x.op = 22) (g3 : x.i = pc + 1) (w : World) (hE : Env w) :
    Calls Tryd.prog 29 #[cdV x, .int .i64 pc] w fun e w' => ∃ p c xs, e = .returned (.slice p xs.length c) ∧ Hid (xs = nexts x pc) ∧ Rw 1 encI w' p c xs ∧ Grew w w'  := by
  have HN : Hid ([pc + 1] = nexts x pc) := Lib.hid (by unfold nexts; rw [if_neg (by simp [hv]), if_neg (by omega), if_neg (by omega), if_neg (by omega), if_neg (by omega)])
  have HV := Lib.hid hv
  have HI := Lib.hid hi
  have HE := Lib.hid hE
  have i1 := hi.1
  have i2 := hi.2
  have f0 : (x.op == 1) = false := by simp; omega
  have f1 : (x.op == 21) = false := by simp; omega
  have f2 : (x.op == 22) = true := by simp; omega
  have f3 : (x.op != 22) = false := by simp; omega
  have f4 : (x.i != pc + 1) = false := by simp; omega
  have f5 : (x.i == pc + 1) = true := by simp; omega
  clear hv hi hE g2 g3
  have HB := Lib.hid (Grew.refl w)
  have tk0 := Lib.hid trivial
  go_enter Tryd.func29, Tryd.ntmps29
  go_wp2_with (first
    | (go_at_call 12; clear tk0; generalize hW : World.alloc _ _ = V; have bx : Blk (w.heap.size) [.int .i64 x.op, .int .i64 x.a, .int .i64 x.b, .int .i64 x.c, .int .i16 x.i] 24 V := (by subst hW; exact Blk.grew (w := (w.alloc (.cells #[.int .i64 x.op, .int .i64 x.a, .int .i64 x.b, .int .i64 x.c, .int .i16 x.i] 24))) (by simpa using Blk.new w [.int .i64 x.op, .int .i64 x.a, .int .i64 x.b, .int .i64 x.c, .int .i16 x.i] 24) (by repeat (first | with_reducible exact Grew.refl _ | with_reducible refine Grew.alloc ?_ _ | with_reducible refine Grew.drw ?_ | with_reducible refine Grew.drwN ?_ _ | with_reducible refine Grew.sc ?_ (by first | omega | (simp <;> omega)) _ _))); replace HB : Hid (Grew w V) := Lib.hid (by subst hW; repeat (first | with_reducible exact HB.out | with_reducible refine Grew.sc ?_ (by first | omega | (simp <;> omega)) _ _ | with_reducible refine Grew.alloc ?_ _ | with_reducible refine Grew.drw ?_ | with_reducible refine Grew.drwN ?_ _)); clear hW; (with_reducible refine (valid_is x _ true HV.out (HE.out.grew HB.out)).mono ?_); rintro e w1 ⟨rfl, g1⟩; replace bx := bx.grew g1; replace HB := Lib.hid (HB.out.trans g1); clear g1; have bx0 := bx.cell 0; have bx1 := bx.cell 1; have bx2 := bx.cell 2; have bx3 := bx.cell 3; have bx4 := bx.cell 4; have bxf := bx.free; have bxl := bx.lt; simp only [List.getElem?_cons_zero, List.getElem?_cons_succ] at bx0 bx1 bx2 bx3 bx4 bxl))
  go_quiet (fail)
  go_wp2
  all_goals (go_ret; exact ⟨_, _, [pc + 1], rfl, HN, Rw.made encIE _ [pc + 1] 1 _ _ _ (by first | rfl | (simp [flatL]; omega)) rfl (by decide), by repeat (first | with_reducible exact HB.out | with_reducible refine Grew.alloc ?_ _ | with_reducible refine Grew.drw ?_ | with_reducible refine Grew.drwN ?_ _ | with_reducible refine Grew.sc ?_ (by first | omega | (simp <;> omega)) _ _)⟩)
set_option maxHeartbeats 2000000 in
theorem next_h (x : Cd) (pc : Int) (hv : valid x = true) (hi : -32768 ≤ x.i ∧ x.i ≤ 32767) (g0 : 0 ≤ pc) (g1 : pc < 480) (g2 : x.op ≠ 1) (g3 : x.op ≠ 21) (g4 : x.op ≠ 22) (w : World) (hE : Env w) :
    Calls Tryd.prog 29 #[cdV x, .int .i64 pc] w fun e w' => ∃ p c xs, e = .returned (.slice p xs.length c) ∧ Hid (xs = nexts x pc) ∧ Rw 1 encI w' p c xs ∧ Grew w w'  := by
  have HN : Hid ([pc + 1] = nexts x pc) := Lib.hid (by unfold nexts; rw [if_neg (by simp [hv]), if_neg (by omega), if_neg (by omega), if_neg (by omega), if_neg (by omega)])
  have HV := Lib.hid hv
  have HI := Lib.hid hi
  have HE := Lib.hid hE
  have i1 := hi.1
  have i2 := hi.2
  have f0 : (x.op == 1) = false := by simp; omega
  have f1 : (x.op == 21) = false := by simp; omega
  have f2 : (x.op == 22) = false := by simp; omega
  have f3 : (x.op != 22) = true := by simp; omega
  clear hv hi hE g2 g3 g4
  have HB := Lib.hid (Grew.refl w)
  have tk0 := Lib.hid trivial
  go_enter Tryd.func29, Tryd.ntmps29
  go_wp2_with (first
    | (go_at_call 12; clear tk0; generalize hW : World.alloc _ _ = V; have bx : Blk (w.heap.size) [.int .i64 x.op, .int .i64 x.a, .int .i64 x.b, .int .i64 x.c, .int .i16 x.i] 24 V := (by subst hW; exact Blk.grew (w := (w.alloc (.cells #[.int .i64 x.op, .int .i64 x.a, .int .i64 x.b, .int .i64 x.c, .int .i16 x.i] 24))) (by simpa using Blk.new w [.int .i64 x.op, .int .i64 x.a, .int .i64 x.b, .int .i64 x.c, .int .i16 x.i] 24) (by repeat (first | with_reducible exact Grew.refl _ | with_reducible refine Grew.alloc ?_ _ | with_reducible refine Grew.drw ?_ | with_reducible refine Grew.drwN ?_ _ | with_reducible refine Grew.sc ?_ (by first | omega | (simp <;> omega)) _ _))); replace HB : Hid (Grew w V) := Lib.hid (by subst hW; repeat (first | with_reducible exact HB.out | with_reducible refine Grew.sc ?_ (by first | omega | (simp <;> omega)) _ _ | with_reducible refine Grew.alloc ?_ _ | with_reducible refine Grew.drw ?_ | with_reducible refine Grew.drwN ?_ _)); clear hW; (with_reducible refine (valid_is x _ true HV.out (HE.out.grew HB.out)).mono ?_); rintro e w1 ⟨rfl, g1⟩; replace bx := bx.grew g1; replace HB := Lib.hid (HB.out.trans g1); clear g1; have bx0 := bx.cell 0; have bx1 := bx.cell 1; have bx2 := bx.cell 2; have bx3 := bx.cell 3; have bx4 := bx.cell 4; have bxf := bx.free; have bxl := bx.lt; simp only [List.getElem?_cons_zero, List.getElem?_cons_succ] at bx0 bx1 bx2 bx3 bx4 bxl))
  go_quiet (fail)
  go_wp2
  all_goals (go_ret; exact ⟨_, _, [pc + 1], rfl, HN, Rw.made encIE _ [pc + 1] 1 _ _ _ (by first | rfl | (simp [flatL]; omega)) rfl (by decide), by repeat (first | with_reducible exact HB.out | with_reducible refine Grew.alloc ?_ _ | with_reducible refine Grew.drw ?_ | with_reducible refine Grew.drwN ?_ _ | with_reducible refine Grew.sc ?_ (by first | omega | (simp <;> omega)) _ _)⟩)
set_option maxHeartbeats 2000000 in
theorem rnext_a (x : Cd) (pc : Int) (hv : valid x = false) (hi : -32768 ≤ x.i ∧ x.i ≤ 32767)  (w : World) :
    Calls Tryd.prog 30 #[cdV x, .int .i64 pc] w fun e w' => ∃ p c xs, e = .returned (.slice p xs.length c) ∧ Hid (xs = nexts x pc) ∧ Rw 1 encI w' p c xs ∧ Grew w w'  := by
  have HN : Hid ([] = nexts x pc) := Lib.hid (by unfold nexts; rw [if_pos hv])
  have HV := Lib.hid hv
  have HI := Lib.hid hi
  skip
  have i1 := hi.1
  have i2 := hi.2
  clear hv hi 
  have HB := Lib.hid (Grew.refl w)
  have tk0 := Lib.hid trivial
  go_enter Tryd.func30, Tryd.ntmps30
  go_wp2_with (first
    | (go_at_call 13; clear tk0; generalize hW : World.alloc _ _ = V; have bx : Blk (w.heap.size) [.int .i64 x.op, .int .i64 x.a, .int .i64 x.b, .int .i64 x.c, .int .i16 x.i] 24 V := (by subst hW; exact Blk.grew (w := (w.alloc (.cells #[.int .i64 x.op, .int .i64 x.a, .int .i64 x.b, .int .i64 x.c, .int .i16 x.i] 24))) (by simpa using Blk.new w [.int .i64 x.op, .int .i64 x.a, .int .i64 x.b, .int .i64 x.c, .int .i16 x.i] 24) (by repeat (first | with_reducible exact Grew.refl _ | with_reducible refine Grew.alloc ?_ _ | with_reducible refine Grew.drw ?_ | with_reducible refine Grew.drwN ?_ _ | with_reducible refine Grew.sc ?_ (by first | omega | (simp <;> omega)) _ _))); replace HB : Hid (Grew w V) := Lib.hid (by subst hW; repeat (first | with_reducible exact HB.out | with_reducible refine Grew.sc ?_ (by first | omega | (simp <;> omega)) _ _ | with_reducible refine Grew.alloc ?_ _ | with_reducible refine Grew.drw ?_ | with_reducible refine Grew.drwN ?_ _)); clear hW; (with_reducible refine (rvalid_is x _ false HV.out HI.out).mono ?_); rintro e w1 ⟨rfl, g1⟩; replace bx := bx.grew g1; replace HB := Lib.hid (HB.out.trans g1); clear g1; have bx0 := bx.cell 0; have bx1 := bx.cell 1; have bx2 := bx.cell 2; have bx3 := bx.cell 3; have bx4 := bx.cell 4; have bxf := bx.free; have bxl := bx.lt; simp only [List.getElem?_cons_zero, List.getElem?_cons_succ] at bx0 bx1 bx2 bx3 bx4 bxl))
  all_goals (go_ret; exact ⟨_, _, [], rfl, HN, Rw.nil _ _ _, by repeat (first | with_reducible exact HB.out | with_reducible refine Grew.alloc ?_ _ | with_reducible refine Grew.drw ?_ | with_reducible refine Grew.drwN ?_ _ | with_reducible refine Grew.sc ?_ (by first | omega | (simp <;> omega)) _ _)⟩)
set_option maxHeartbeats 2000000 in
theorem rnext_b (x : Cd) (pc : Int) (hv : valid x = true) (hi : -32768 ≤ x.i ∧ x.i ≤ 32767) (g0 : pc < 0 ∨ 480 ≤ pc) (w : World) :
    Calls Tryd.prog 30 #[cdV x, .int .i64 pc] w fun e w' => ∃ p c xs, e = .returned (.slice p xs.length c) ∧ Hid (xs = nexts x pc) ∧ Rw 1 encI w' p c xs ∧ Grew w w'  := by
  have HN : Hid ([] = nexts x pc) := Lib.hid (by unfold nexts; rw [if_neg (by simp [hv]), if_pos (by omega)])
  have HV := Lib.hid hv
  have HI := Lib.hid hi
  skip
  have i1 := hi.1
  have i2 := hi.2
  clear hv hi 
  have HB := Lib.hid (Grew.refl w)
  have tk0 := Lib.hid trivial
  go_enter Tryd.func30, Tryd.ntmps30
  go_wp2_with (first
    | (go_at_call 13; clear tk0; generalize hW : World.alloc _ _ = V; have bx : Blk (w.heap.size) [.int .i64 x.op, .int .i64 x.a, .int .i64 x.b, .int .i64 x.c, .int .i16 x.i] 24 V := (by subst hW; exact Blk.grew (w := (w.alloc (.cells #[.int .i64 x.op, .int .i64 x.a, .int .i64 x.b, .int .i64 x.c, .int .i16 x.i] 24))) (by simpa using Blk.new w [.int .i64 x.op, .int .i64 x.a, .int .i64 x.b, .int .i64 x.c, .int .i16 x.i] 24) (by repeat (first | with_reducible exact Grew.refl _ | with_reducible refine Grew.alloc ?_ _ | with_reducible refine Grew.drw ?_ | with_reducible refine Grew.drwN ?_ _ | with_reducible refine Grew.sc ?_ (by first | omega | (simp <;> omega)) _ _))); replace HB : Hid (Grew w V) := Lib.hid (by subst hW; repeat (first | with_reducible exact HB.out | with_reducible refine Grew.sc ?_ (by first | omega | (simp <;> omega)) _ _ | with_reducible refine Grew.alloc ?_ _ | with_reducible refine Grew.drw ?_ | with_reducible refine Grew.drwN ?_ _)); clear hW; (with_reducible refine (rvalid_is x _ true HV.out HI.out).mono ?_); rintro e w1 ⟨rfl, g1⟩; replace bx := bx.grew g1; replace HB := Lib.hid (HB.out.trans g1); clear g1; have bx0 := bx.cell 0; have bx1 := bx.cell 1; have bx2 := bx.cell 2; have bx3 := bx.cell 3; have bx4 := bx.cell 4; have bxf := bx.free; have bxl := bx.lt; simp only [List.getElem?_cons_zero, List.getElem?_cons_succ] at bx0 bx1 bx2 bx3 bx4 bxl))
  all_goals (go_ret; exact ⟨_, _, [], rfl, HN, Rw.nil _ _ _, by repeat (first | with_reducible exact HB.out | with_reducible refine Grew.alloc ?_ _ | with_reducible refine Grew.drw ?_ | with_reducible refine Grew.drwN ?_ _ | with_reducible refine Grew.sc ?_ (by first | omega | (simp <;> omega)) _ _)⟩)
set_option maxHeartbeats 2000000 in
theorem rnext_c (x : Cd) (pc : Int) (hv : valid x = true) (hi : -32768 ≤ x.i ∧ x.i ≤ 32767) (g0 : 0 ≤ pc) (g1 : pc < 480) (g2 : x.op = 1) (w : World) :
    Calls Tryd.prog 30 #[cdV x, .int .i64 pc] w fun e w' => ∃ p c xs, e = .returned (.slice p xs.length c) ∧ Hid (xs = nexts x pc) ∧ Rw 1 encI w' p c xs ∧ Grew w w'  := by
  have HN : Hid ([] = nexts x pc) := Lib.hid (by unfold nexts; rw [if_neg (by simp [hv]), if_neg (by omega), if_pos (by omega)])
  have HV := Lib.hid hv
  have HI := Lib.hid hi
  skip
  have i1 := hi.1
  have i2 := hi.2
  have f0 : (x.op == 1) = true := by simp; omega
  clear hv hi g2
  have HB := Lib.hid (Grew.refl w)
  have tk0 := Lib.hid trivial
  go_enter Tryd.func30, Tryd.ntmps30
  go_wp2_with (first
    | (go_at_call 13; clear tk0; generalize hW : World.alloc _ _ = V; have bx : Blk (w.heap.size) [.int .i64 x.op, .int .i64 x.a, .int .i64 x.b, .int .i64 x.c, .int .i16 x.i] 24 V := (by subst hW; exact Blk.grew (w := (w.alloc (.cells #[.int .i64 x.op, .int .i64 x.a, .int .i64 x.b, .int .i64 x.c, .int .i16 x.i] 24))) (by simpa using Blk.new w [.int .i64 x.op, .int .i64 x.a, .int .i64 x.b, .int .i64 x.c, .int .i16 x.i] 24) (by repeat (first | with_reducible exact Grew.refl _ | with_reducible refine Grew.alloc ?_ _ | with_reducible refine Grew.drw ?_ | with_reducible refine Grew.drwN ?_ _ | with_reducible refine Grew.sc ?_ (by first | omega | (simp <;> omega)) _ _))); replace HB : Hid (Grew w V) := Lib.hid (by subst hW; repeat (first | with_reducible exact HB.out | with_reducible refine Grew.sc ?_ (by first | omega | (simp <;> omega)) _ _ | with_reducible refine Grew.alloc ?_ _ | with_reducible refine Grew.drw ?_ | with_reducible refine Grew.drwN ?_ _)); clear hW; (with_reducible refine (rvalid_is x _ true HV.out HI.out).mono ?_); rintro e w1 ⟨rfl, g1⟩; replace bx := bx.grew g1; replace HB := Lib.hid (HB.out.trans g1); clear g1; have bx0 := bx.cell 0; have bx1 := bx.cell 1; have bx2 := bx.cell 2; have bx3 := bx.cell 3; have bx4 := bx.cell 4; have bxf := bx.free; have bxl := bx.lt; simp only [List.getElem?_cons_zero, List.getElem?_cons_succ] at bx0 bx1 bx2 bx3 bx4 bxl))
  all_goals (go_ret; exact ⟨_, _, [], rfl, HN, Rw.nil _ _ _, by repeat (first | with_reducible exact HB.out | with_reducible refine Grew.alloc ?_ _ | with_reducible refine Grew.drw ?_ | with_reducible refine Grew.drwN ?_ _ | with_reducible refine Grew.sc ?_ (by first | omega | (simp <;> omega)) _ _)⟩)
set_option maxHeartbeats 2000000 in
theorem rnext_d (x : Cd) (pc : Int) (hv : valid x = true) (hi : -32768 ≤ x.i ∧ x.i ≤ 32767) (g0 : 0 ≤ pc) (g1 : pc < 480) (g2 : x.op = 21) (w : World) :
    Calls Tryd.prog 30 #[cdV x, .int .i64 pc] w fun e w' => ∃ p c xs, e = .returned (.slice p xs.length c) ∧ Hid (xs = nexts x pc) ∧ Rw 1 encI w' p c xs ∧ Grew w w'  := by
  have HN : Hid ([x.i] = nexts x pc) := Lib.hid (by unfold nexts; rw [if_neg (by simp [hv]), if_neg (by omega), if_neg (by omega), if_pos (by omega)])
  have HV := Lib.hid hv
  have HI := Lib.hid hi
  skip
  have i1 := hi.1
  have i2 := hi.2
  have f0 : (x.op == 1) = false := by simp; omega
  have f1 : (x.op == 21) = true := by simp; omega
  clear hv hi g2
  have HB := Lib.hid (Grew.refl w)
  have tk0 := Lib.hid trivial
  go_enter Tryd.func30, Tryd.ntmps30
  go_wp2_with (first
    | (go_at_call 13; clear tk0; generalize hW : World.alloc _ _ = V; have bx : Blk (w.heap.size) [.int .i64 x.op, .int .i64 x.a, .int .i64 x.b, .int .i64 x.c, .int .i16 x.i] 24 V := (by subst hW; exact Blk.grew (w := (w.alloc (.cells #[.int .i64 x.op, .int .i64 x.a, .int .i64 x.b, .int .i64 x.c, .int .i16 x.i] 24))) (by simpa using Blk.new w [.int .i64 x.op, .int .i64 x.a, .int .i64 x.b, .int .i64 x.c, .int .i16 x.i] 24) (by repeat (first | with_reducible exact Grew.refl _ | with_reducible refine Grew.alloc ?_ _ | with_reducible refine Grew.drw ?_ | with_reducible refine Grew.drwN ?_ _ | with_reducible refine Grew.sc ?_ (by first | omega | (simp <;> omega)) _ _))); replace HB : Hid (Grew w V) := Lib.hid (by subst hW; repeat (first | with_reducible exact HB.out | with_reducible refine Grew.sc ?_ (by first | omega | (simp <;> omega)) _ _ | with_reducible refine Grew.alloc ?_ _ | with_reducible refine Grew.drw ?_ | with_reducible refine Grew.drwN ?_ _)); clear hW; (with_reducible refine (rvalid_is x _ true HV.out HI.out).mono ?_); rintro e w1 ⟨rfl, g1⟩; replace bx := bx.grew g1; replace HB := Lib.hid (HB.out.trans g1); clear g1; have bx0 := bx.cell 0; have bx1 := bx.cell 1; have bx2 := bx.cell 2; have bx3 := bx.cell 3; have bx4 := bx.cell 4; have bxf := bx.free; have bxl := bx.lt; simp only [List.getElem?_cons_zero, List.getElem?_cons_succ] at bx0 bx1 bx2 bx3 bx4 bxl))
  all_goals (go_ret; exact ⟨_, _, [x.i], rfl, HN, Rw.made encIE _ [x.i] 1 _ _ _ (by first | rfl | (simp [flatL]; omega)) rfl (by decide), by repeat (first | with_reducible exact HB.out | with_reducible refine Grew.alloc ?_ _ | with_reducible refine Grew.drw ?_ | with_reducible refine Grew.drwN ?_ _ | with_reducible refine Grew.sc ?_ (by first | omega | (simp <;> omega)) _ _)⟩)
set_option maxHeartbeats 2000000 in
theorem rnext_e (x : Cd) (pc : Int) (hv : valid x = true) (hi : -32768 ≤ x.i ∧ x.i ≤ 32767) (g0 : 0 ≤ pc) (g1 : pc < 480) (g2 : x.op = 22) (g3 : x.i < pc + 1) (w : World) :
    Calls Tryd.prog 30 #[cdV x, .int .i64 pc] w fun e w' => ∃ p c xs, e = .returned (.slice p xs.length c) ∧ Hid (xs = nexts x pc) ∧ Rw 1 encI w' p c xs ∧ Grew w w'  := by
  have HN : Hid ([x.i, pc + 1] = nexts x pc) := Lib.hid (by unfold nexts; rw [if_neg (by simp [hv]), if_neg (by omega), if_neg (by omega), if_neg (by omega), if_pos (by omega), if_pos (by omega)])
  have HV := Lib.hid hv
  have HI := Lib.hid hi
  skip
  have i1 := hi.1
  have i2 := hi.2
  have f0 : (x.op == 1) = false := by simp; omega
  have f1 : (x.op == 21) = false := by simp; omega
  have f2 : (x.op == 22) = true := by simp; omega
  have f3 : (x.op != 22) = false := by simp; omega
  have f4 : (x.i != pc + 1) = true := by simp; omega
  have f5 : (x.i == pc + 1) = false := by simp; omega
  clear hv hi g2
  have HB := Lib.hid (Grew.refl w)
  have tk0 := Lib.hid trivial
  go_enter Tryd.func30, Tryd.ntmps30
  go_wp2_with (first
    | (go_at_call 13; clear tk0; generalize hW : World.alloc _ _ = V; have bx : Blk (w.heap.size) [.int .i64 x.op, .int .i64 x.a, .int .i64 x.b, .int .i64 x.c, .int .i16 x.i] 24 V := (by subst hW; exact Blk.grew (w := (w.alloc (.cells #[.int .i64 x.op, .int .i64 x.a, .int .i64 x.b, .int .i64 x.c, .int .i16 x.i] 24))) (by simpa using Blk.new w [.int .i64 x.op, .int .i64 x.a, .int .i64 x.b, .int .i64 x.c, .int .i16 x.i] 24) (by repeat (first | with_reducible exact Grew.refl _ | with_reducible refine Grew.alloc ?_ _ | with_reducible refine Grew.drw ?_ | with_reducible refine Grew.drwN ?_ _ | with_reducible refine Grew.sc ?_ (by first | omega | (simp <;> omega)) _ _))); replace HB : Hid (Grew w V) := Lib.hid (by subst hW; repeat (first | with_reducible exact HB.out | with_reducible refine Grew.sc ?_ (by first | omega | (simp <;> omega)) _ _ | with_reducible refine Grew.alloc ?_ _ | with_reducible refine Grew.drw ?_ | with_reducible refine Grew.drwN ?_ _)); clear hW; (with_reducible refine (rvalid_is x _ true HV.out HI.out).mono ?_); rintro e w1 ⟨rfl, g1⟩; replace bx := bx.grew g1; replace HB := Lib.hid (HB.out.trans g1); clear g1; have bx0 := bx.cell 0; have bx1 := bx.cell 1; have bx2 := bx.cell 2; have bx3 := bx.cell 3; have bx4 := bx.cell 4; have bxf := bx.free; have bxl := bx.lt; simp only [List.getElem?_cons_zero, List.getElem?_cons_succ] at bx0 bx1 bx2 bx3 bx4 bxl))
  all_goals (go_ret; exact ⟨_, _, [x.i, pc + 1], rfl, HN, Rw.made encIE _ [x.i, pc + 1] 2 _ _ _ (by first | rfl | (simp [flatL]; omega)) rfl (by decide), by repeat (first | with_reducible exact HB.out | with_reducible refine Grew.alloc ?_ _ | with_reducible refine Grew.drw ?_ | with_reducible refine Grew.drwN ?_ _ | with_reducible refine Grew.sc ?_ (by first | omega | (simp <;> omega)) _ _)⟩)
set_option maxHeartbeats 2000000 in
theorem rnext_f (x : Cd) (pc : Int) (hv : valid x = true) (hi : -32768 ≤ x.i ∧ x.i ≤ 32767) (g0 : 0 ≤ pc) (g1 : pc < 480) (g2 : x.op = 22) (g3 : pc + 1 < x.i) (w : World) :
    Calls Tryd.prog 30 #[cdV x, .int .i64 pc] w fun e w' => ∃ p c xs, e = .returned (.slice p xs.length c) ∧ Hid (xs = nexts x pc) ∧ Rw 1 encI w' p c xs ∧ Grew w w'  := by
  have HN : Hid ([pc + 1, x.i] = nexts x pc) := Lib.hid (by unfold nexts; rw [if_neg (by simp [hv]), if_neg (by omega), if_neg (by omega), if_neg (by omega), if_pos (by omega), if_neg (by omega)])
  have HV := Lib.hid hv
  have HI := Lib.hid hi
  skip
  have i1 := hi.1
  have i2 := hi.2
  have f0 : (x.op == 1) = false := by simp; omega
  have f1 : (x.op == 21) = false := by simp; omega
  have f2 : (x.op == 22) = true := by simp; omega
  have f3 : (x.op != 22) = false := by simp; omega
  have f4 : (x.i != pc + 1) = true := by simp; omega
  have f5 : (x.i == pc + 1) = false := by simp; omega
  clear hv hi g2
  have HB := Lib.hid (Grew.refl w)
  have tk0 := Lib.hid trivial
  go_enter Tryd.func30, Tryd.ntmps30
  go_wp2_with (first
    | (go_at_call 13; clear tk0; generalize hW : World.alloc _ _ = V; have bx : Blk (w.heap.size) [.int .i64 x.op, .int .i64 x.a, .int .i64 x.b, .int .i64 x.c, .int .i16 x.i] 24 V := (by subst hW; exact Blk.grew (w := (w.alloc (.cells #[.int .i64 x.op, .int .i64 x.a, .int .i64 x.b, .int .i64 x.c, .int .i16 x.i] 24))) (by simpa using Blk.new w [.int .i64 x.op, .int .i64 x.a, .int .i64 x.b, .int .i64 x.c, .int .i16 x.i] 24) (by repeat (first | with_reducible exact Grew.refl _ | with_reducible refine Grew.alloc ?_ _ | with_reducible refine Grew.drw ?_ | with_reducible refine Grew.drwN ?_ _ | with_reducible refine Grew.sc ?_ (by first | omega | (simp <;> omega)) _ _))); replace HB : Hid (Grew w V) := Lib.hid (by subst hW; repeat (first | with_reducible exact HB.out | with_reducible refine Grew.sc ?_ (by first | omega | (simp <;> omega)) _ _ | with_reducible refine Grew.alloc ?_ _ | with_reducible refine Grew.drw ?_ | with_reducible refine Grew.drwN ?_ _)); clear hW; (with_reducible refine (rvalid_is x _ true HV.out HI.out).mono ?_); rintro e w1 ⟨rfl, g1⟩; replace bx := bx.grew g1; replace HB := Lib.hid (HB.out.trans g1); clear g1; have bx0 := bx.cell 0; have bx1 := bx.cell 1; have bx2 := bx.cell 2; have bx3 := bx.cell 3; have bx4 := bx.cell 4; have bxf := bx.free; have bxl := bx.lt; simp only [List.getElem?_cons_zero, List.getElem?_cons_succ] at bx0 bx1 bx2 bx3 bx4 bxl))
  all_goals (go_ret; exact ⟨_, _, [pc + 1, x.i], rfl, HN, Rw.made encIE _ [pc + 1, x.i] 2 _ _ _ (by first | rfl | (simp [flatL]; omega)) rfl (by decide), by repeat (first | with_reducible exact HB.out | with_reducible refine Grew.alloc ?_ _ | with_reducible refine Grew.drw ?_ | with_reducible refine Grew.drwN ?_ _ | with_reducible refine Grew.sc ?_ (by first | omega | (simp <;> omega)) _ _)⟩)
set_option maxHeartbeats 2000000 in
theorem rnext_g (x : Cd) (pc : Int) (hv : valid x = true) (hi : -32768 ≤ x.i ∧ x.i ≤ 32767) (g0 : 0 ≤ pc) (g1 : pc < 480) (g2 : x.op = 22) (g3 : x.i = pc + 1) (w : World) :
    Calls Tryd.prog 30 #[cdV x, .int .i64 pc] w fun e w' => ∃ p c xs, e = .returned (.slice p xs.length c) ∧ Hid (xs = nexts x pc) ∧ Rw 1 encI w' p c xs ∧ Grew w w'  := by
  have HN : Hid ([pc + 1] = nexts x pc) := Lib.hid (by unfold nexts; rw [if_neg (by simp [hv]), if_neg (by omega), if_neg (by omega), if_neg (by omega), if_neg (by omega)])
  have HV := Lib.hid hv
  have HI := Lib.hid hi
  skip
  have i1 := hi.1
  have i2 := hi.2
  have f0 : (x.op == 1) = false := by simp; omega
  have f1 : (x.op == 21) = false := by simp; omega
  have f2 : (x.op == 22) = true := by simp; omega
  have f3 : (x.op != 22) = false := by simp; omega
  have f4 : (x.i != pc + 1) = false := by simp; omega
  have f5 : (x.i == pc + 1) = true := by simp; omega
  clear hv hi g2 g3
  have HB := Lib.hid (Grew.refl w)
  have tk0 := Lib.hid trivial
  go_enter Tryd.func30, Tryd.ntmps30
  go_wp2_with (first
    | (go_at_call 13; clear tk0; generalize hW : World.alloc _ _ = V; have bx : Blk (w.heap.size) [.int .i64 x.op, .int .i64 x.a, .int .i64 x.b, .int .i64 x.c, .int .i16 x.i] 24 V := (by subst hW; exact Blk.grew (w := (w.alloc (.cells #[.int .i64 x.op, .int .i64 x.a, .int .i64 x.b, .int .i64 x.c, .int .i16 x.i] 24))) (by simpa using Blk.new w [.int .i64 x.op, .int .i64 x.a, .int .i64 x.b, .int .i64 x.c, .int .i16 x.i] 24) (by repeat (first | with_reducible exact Grew.refl _ | with_reducible refine Grew.alloc ?_ _ | with_reducible refine Grew.drw ?_ | with_reducible refine Grew.drwN ?_ _ | with_reducible refine Grew.sc ?_ (by first | omega | (simp <;> omega)) _ _))); replace HB : Hid (Grew w V) := Lib.hid (by subst hW; repeat (first | with_reducible exact HB.out | with_reducible refine Grew.sc ?_ (by first | omega | (simp <;> omega)) _ _ | with_reducible refine Grew.alloc ?_ _ | with_reducible refine Grew.drw ?_ | with_reducible refine Grew.drwN ?_ _)); clear hW; (with_reducible refine (rvalid_is x _ true HV.out HI.out).mono ?_); rintro e w1 ⟨rfl, g1⟩; replace bx := bx.grew g1; replace HB := Lib.hid (HB.out.trans g1); clear g1; have bx0 := bx.cell 0; have bx1 := bx.cell 1; have bx2 := bx.cell 2; have bx3 := bx.cell 3; have bx4 := bx.cell 4; have bxf := bx.free; have bxl := bx.lt; simp only [List.getElem?_cons_zero, List.getElem?_cons_succ] at bx0 bx1 bx2 bx3 bx4 bxl))
  all_goals (go_ret; exact ⟨_, _, [pc + 1], rfl, HN, Rw.made encIE _ [pc + 1] 1 _ _ _ (by first | rfl | (simp [flatL]; omega)) rfl (by decide), by repeat (first | with_reducible exact HB.out | with_reducible refine Grew.alloc ?_ _ | with_reducible refine Grew.drw ?_ | with_reducible refine Grew.drwN ?_ _ | with_reducible refine Grew.sc ?_ (by first | omega | (simp <;> omega)) _ _)⟩)
set_option maxHeartbeats 2000000 in
theorem rnext_h (x : Cd) (pc : Int) (hv : valid x = true) (hi : -32768 ≤ x.i ∧ x.i ≤ 32767) (g0 : 0 ≤ pc) (g1 : pc < 480) (g2 : x.op ≠ 1) (g3 : x.op ≠ 21) (g4 : x.op ≠ 22) (w : World) :
    Calls Tryd.prog 30 #[cdV x, .int .i64 pc] w fun e w' => ∃ p c xs, e = .returned (.slice p xs.length c) ∧ Hid (xs = nexts x pc) ∧ Rw 1 encI w' p c xs ∧ Grew w w'  := by
  have HN : Hid ([pc + 1] = nexts x pc) := Lib.hid (by unfold nexts; rw [if_neg (by simp [hv]), if_neg (by omega), if_neg (by omega), if_neg (by omega), if_neg (by omega)])
  have HV := Lib.hid hv
  have HI := Lib.hid hi
  skip
  have i1 := hi.1
  have i2 := hi.2
  have f0 : (x.op == 1) = false := by simp; omega
  have f1 : (x.op == 21) = false := by simp; omega
  have f2 : (x.op == 22) = false := by simp; omega
  have f3 : (x.op != 22) = true := by simp; omega
  clear hv hi g2 g3 g4
  have HB := Lib.hid (Grew.refl w)
  have tk0 := Lib.hid trivial
  go_enter Tryd.func30, Tryd.ntmps30
  go_wp2_with (first
    | (go_at_call 13; clear tk0; generalize hW : World.alloc _ _ = V; have bx : Blk (w.heap.size) [.int .i64 x.op, .int .i64 x.a, .int .i64 x.b, .int .i64 x.c, .int .i16 x.i] 24 V := (by subst hW; exact Blk.grew (w := (w.alloc (.cells #[.int .i64 x.op, .int .i64 x.a, .int .i64 x.b, .int .i64 x.c, .int .i16 x.i] 24))) (by simpa using Blk.new w [.int .i64 x.op, .int .i64 x.a, .int .i64 x.b, .int .i64 x.c, .int .i16 x.i] 24) (by repeat (first | with_reducible exact Grew.refl _ | with_reducible refine Grew.alloc ?_ _ | with_reducible refine Grew.drw ?_ | with_reducible refine Grew.drwN ?_ _ | with_reducible refine Grew.sc ?_ (by first | omega | (simp <;> omega)) _ _))); replace HB : Hid (Grew w V) := Lib.hid (by subst hW; repeat (first | with_reducible exact HB.out | with_reducible refine Grew.sc ?_ (by first | omega | (simp <;> omega)) _ _ | with_reducible refine Grew.alloc ?_ _ | with_reducible refine Grew.drw ?_ | with_reducible refine Grew.drwN ?_ _)); clear hW; (with_reducible refine (rvalid_is x _ true HV.out HI.out).mono ?_); rintro e w1 ⟨rfl, g1⟩; replace bx := bx.grew g1; replace HB := Lib.hid (HB.out.trans g1); clear g1; have bx0 := bx.cell 0; have bx1 := bx.cell 1; have bx2 := bx.cell 2; have bx3 := bx.cell 3; have bx4 := bx.cell 4; have bxf := bx.free; have bxl := bx.lt; simp only [List.getElem?_cons_zero, List.getElem?_cons_succ] at bx0 bx1 bx2 bx3 bx4 bxl))
  all_goals (go_ret; exact ⟨_, _, [pc + 1], rfl, HN, Rw.made encIE _ [pc + 1] 1 _ _ _ (by first | rfl | (simp [flatL]; omega)) rfl (by decide), by repeat (first | with_reducible exact HB.out | with_reducible refine Grew.alloc ?_ _ | with_reducible refine Grew.drw ?_ | with_reducible refine Grew.drwN ?_ _ | with_reducible refine Grew.sc ?_ (by first | omega | (simp <;> omega)) _ _)⟩)
theorem next_any (x : Cd) (pc : Int) (hi : -32768 ≤ x.i ∧ x.i ≤ 32767) (w : World) (hE : Env w) :
    Calls Tryd.prog 29 #[cdV x, .int .i64 pc] w fun e w' => ∃ p c xs, e = .returned (.slice p xs.length c) ∧ Hid (xs = nexts x pc) ∧ Rw 1 encI w' p c xs ∧ Grew w w'  := by
  cases hv : valid x
  · exact next_a x pc hv hi w hE
  · by_cases g0 : pc < 0 ∨ 480 ≤ pc
    · exact next_b x pc hv hi g0 w hE
    · have g1 : 0 ≤ pc := by omega
      have g2 : pc < 480 := by omega
      by_cases h1 : x.op = 1
      · exact next_c x pc hv hi g1 g2 h1 w hE
      · by_cases h2 : x.op = 21
        · exact next_d x pc hv hi g1 g2 h2 w hE
        · by_cases h3 : x.op = 22
          · rcases Int.lt_trichotomy x.i (pc + 1) with h | h | h
            · exact next_e x pc hv hi g1 g2 h3 h w hE
            · exact next_g x pc hv hi g1 g2 h3 h w hE
            · exact next_f x pc hv hi g1 g2 h3 h w hE
          · exact next_h x pc hv hi g1 g2 h1 h2 h3 w hE
theorem rnext_any (x : Cd) (pc : Int) (hi : -32768 ≤ x.i ∧ x.i ≤ 32767) (w : World) :
    Calls Tryd.prog 30 #[cdV x, .int .i64 pc] w fun e w' => ∃ p c xs, e = .returned (.slice p xs.length c) ∧ Hid (xs = nexts x pc) ∧ Rw 1 encI w' p c xs ∧ Grew w w'  := by
  cases hv : valid x
  · exact rnext_a x pc hv hi w
  · by_cases g0 : pc < 0 ∨ 480 ≤ pc
    · exact rnext_b x pc hv hi g0 w
    · have g1 : 0 ≤ pc := by omega
      have g2 : pc < 480 := by omega
      by_cases h1 : x.op = 1
      · exact rnext_c x pc hv hi g1 g2 h1 w
      · by_cases h2 : x.op = 21
        · exact rnext_d x pc hv hi g1 g2 h2 w
        · by_cases h3 : x.op = 22
          · rcases Int.lt_trichotomy x.i (pc + 1) with h | h | h
            · exact rnext_e x pc hv hi g1 g2 h3 h w
            · exact rnext_g x pc hv hi g1 g2 h3 h w
            · exact rnext_f x pc hv hi g1 g2 h3 h w
          · exact rnext_h x pc hv hi g1 g2 h1 h2 h3 w
theorem enters_nx : Enters Tryd.prog 29 := fun args w => by go_simp
theorem enters_rnx : Enters Tryd.prog 30 := fun args w => by go_simp
theorem enters_same : Enters Tryd.prog 28 := fun args w => by go_simp
/-- The value reads as the list. -/
def LstI (v : Value) (xs : List Int) (w : World) : Prop := ∃ p c, v = .slice p xs.length c ∧ Rw 1 encI w p c xs
theorem LstI.kept {v : Value} {xs : List Int} {w w' : World} (h : LstI v xs w) (hg : Grew w w') : LstI v xs w' := by
  obtain ⟨p, c, h1, h2⟩ := h
  exact ⟨p, c, h1, h2.kept hg⟩
theorem callq {f : FuncId} {vs : Array Value} {w : World} {F : Value → World → Prop} (h : Calls Tryd.prog f vs w fun e w' => ∃ v, e = .returned v ∧ F v w' ∧ Grew w w') : Calls Tryd.prog f vs w fun e w' => ∃ v, e = .returned v ∧ (Grew w w' ∧ F v w') :=
  h.mono fun e w' ⟨v, h1, h2, h3⟩ => ⟨v, h1, h3, h2⟩
theorem next_v (x : Cd) (pc : Int) (hi : -32768 ≤ x.i ∧ x.i ≤ 32767) (w : World) (hE : Env w) : Calls Tryd.prog 29 #[cdV x, .int .i64 pc] w fun e w' => ∃ v, e = .returned v ∧ LstI v (nexts x pc) w' ∧ Grew w w' :=
  (next_any x pc hi w hE).mono fun e w' ⟨p, c, xs, h1, h2, h3, h4⟩ => ⟨_, h1, h2.out ▸ ⟨p, c, rfl, h3⟩, h4⟩
theorem rnext_v (x : Cd) (pc : Int) (hi : -32768 ≤ x.i ∧ x.i ≤ 32767) (w : World) : Calls Tryd.prog 30 #[cdV x, .int .i64 pc] w fun e w' => ∃ v, e = .returned v ∧ LstI v (nexts x pc) w' ∧ Grew w w' :=
  (rnext_any x pc hi w).mono fun e w' ⟨p, c, xs, h1, h2, h3, h4⟩ => ⟨_, h1, h2.out ▸ ⟨p, c, rfl, h3⟩, h4⟩
theorem same_v (v u : Value) (xs : List Int) (w : World) (h : LstI v xs w) (h' : LstI u xs w) : Calls Tryd.prog 28 #[v, u] w fun e w' => e = .returned (.bool true) ∧ Grew w w' := by
  obtain ⟨p, c, rfl, h1⟩ := h
  obtain ⟨q, d, rfl, h2⟩ := h'
  exact same_self p _ c q _ d xs w h1 rfl h2 rfl
set_option maxHeartbeats 4000000 in
theorem next_law (x : Cd) (pc : Int) (hi : -32768 ≤ x.i ∧ x.i ≤ 32767) (w : World) (he : Env w) : Calls Tryd.prog 9 #[cdV x, .int .i64 pc] w fun e w' => e = .returned (.bool true) ∧ Grew w w' := by
  have HE := Lib.hid he
  have HI := Lib.hid hi
  clear he hi
  have HB := Lib.hid (Grew.refl w)
  have tk0 := Lib.hid trivial
  go_enter Tryd.func9, Tryd.ntmps9
  go_wp2_with (first
    | (go_at_call 11; clear tk0; generalize hW : World.alloc _ _ = V; have bx : Blk (w.heap.size) [.int .i64 x.op, .int .i64 x.a, .int .i64 x.b, .int .i64 x.c, .int .i16 x.i] 24 V := (by subst hW; exact Blk.grew (w := (w.alloc (.cells #[.int .i64 x.op, .int .i64 x.a, .int .i64 x.b, .int .i64 x.c, .int .i16 x.i] 24))) (by simpa using Blk.new w [.int .i64 x.op, .int .i64 x.a, .int .i64 x.b, .int .i64 x.c, .int .i16 x.i] 24) (by repeat (first | with_reducible exact Grew.refl _ | with_reducible refine Grew.alloc ?_ _ | with_reducible refine Grew.drw ?_ | with_reducible refine Grew.drwN ?_ _ | with_reducible refine Grew.sc ?_ (by first | omega | (simp <;> omega)) _ _))); replace HB : Hid (Grew w V) := Lib.hid (by subst hW; repeat (first | with_reducible exact HB.out | with_reducible refine Grew.sc ?_ (by first | omega | (simp <;> omega)) _ _ | with_reducible refine Grew.alloc ?_ _ | with_reducible refine Grew.drw ?_ | with_reducible refine Grew.drwN ?_ _)); clear hW; (with_reducible refine (wakes_any _ (HE.out.grew HB.out)).mono ?_); rintro e w1 ⟨rfl, g1⟩; replace bx := bx.grew g1; replace HB := Lib.hid (HB.out.trans g1); clear g1; have bx0 := bx.cell 0; have bx1 := bx.cell 1; have bx2 := bx.cell 2; have bx3 := bx.cell 3; have bx4 := bx.cell 4; have bxf := bx.free; have bxl := bx.lt; simp only [List.getElem?_cons_zero, List.getElem?_cons_succ] at bx0 bx1 bx2 bx3 bx4 bxl))
  have HED := (HE.out.grew HB.out).grew (Grew.refl w1).drw
  have c0 : Atv ⟨w.heap.size, 0, none⟩ (.int .i64 x.op) (w1).drew := (bx.grew (Grew.refl _).drw).atv 0 rfl
  have c1 : Atv ⟨w.heap.size, 1, none⟩ (.int .i64 x.a) (w1).drew := (bx.grew (Grew.refl _).drw).atv 1 rfl
  have c2 : Atv ⟨w.heap.size, 2, none⟩ (.int .i64 x.b) (w1).drew := (bx.grew (Grew.refl _).drw).atv 2 rfl
  have c3 : Atv ⟨w.heap.size, 3, none⟩ (.int .i64 x.c) (w1).drew := (bx.grew (Grew.refl _).drw).atv 3 rfl
  have c4 : Atv ⟨w.heap.size, 4, none⟩ (.int .i16 x.i) (w1).drew := (bx.grew (Grew.refl _).drw).atv 4 rfl
  generalize w.heap.size = S0 at c0 c1 c2 c3 c4 ⊢
  clear bx bx0 bx1 bx2 bx3 bx4 bxf bxl
  refine wp_posts [some 7, some 8, some 9, some 10, some 11, some 12, some 13, some 4] [false, false, false, false, true, false, false, true, true, true, true, true, true, true] [fun v _ => v = .agg #[.int .i64 (x.op), .int .i64 (x.a), .int .i64 (x.b), .int .i64 (x.c), .int .i16 (x.i)], fun v _ => v = .int .i64 (pc), fun v w => LstI v (nexts x pc) w, fun v _ => v = .agg #[.int .i64 (x.op), .int .i64 (x.a), .int .i64 (x.b), .int .i64 (x.c), .int .i16 (x.i)], fun v _ => v = .int .i64 (pc), fun v w => LstI v (nexts x pc) w, fun v _ => v = .bool true, fun v _ => v = .bool (true)] (by kernel_rfl) (by kernel_rfl) rfl ?_ ⟨?_, ?_, ?_, ?_, ?_, ?_, ?_, ?_, trivial⟩ ?_
  · exact ⟨fun _ _ _ _ h => h, fun _ _ _ _ h => h, fun _ _ _ hg h => h.kept hg, fun _ _ _ _ h => h, fun _ _ _ _ h => h, fun _ _ _ hg h => h.kept hg, fun _ _ _ _ h => h, fun _ _ _ _ h => h, trivial⟩
  · intro u w hR hd; exact rn_ld_24 (ev rfl) (c0.kept hR) (c1.kept hR) (c2.kept hR) (c3.kept hR) (c4.kept hR) ⟨Grew.refl _, rfl⟩
  · intro u w hR hd; exact runs_mv (ev rfl) ⟨Grew.refl _, rfl⟩
  · intro u w hR hd; exact runs_c2 enters_nx (ev (hd.1 rfl)) (ev (hd.2.1 rfl)) (callq (next_v x pc HI.out _ (HED.grew hR)))
  · intro u w hR hd; exact rn_ld_24 (ev rfl) (c0.kept hR) (c1.kept hR) (c2.kept hR) (c3.kept hR) (c4.kept hR) ⟨Grew.refl _, rfl⟩
  · intro u w hR hd; exact runs_mv (ev rfl) ⟨Grew.refl _, rfl⟩
  · intro u w hR hd; exact runs_c2 enters_rnx (ev (hd.1 rfl)) (ev (hd.2.1 rfl)) (callq (rnext_v x pc HI.out _))
  · intro u w hR hd; exact runs_c2 enters_same (ev rfl) (ev rfl) (callp (fun _ e => e) (same_v _ _ (nexts x pc) _ (hd.1 rfl) (hd.2.1 rfl)))
  · intro u w hR hd; exact runs_mva (ev (hd.1 rfl)) ⟨Grew.refl _, rfl⟩
  · intro u w4 hR h
    have he : u 4 = .bool true := h 7 (by decide)
    simp only [mixA, mixL, cond_true, cond_false]
    rw [he]
    clear h he
    go_wp2
    go_ret
    exact ⟨rfl, HB.out.trans ((Grew.refl _).drw.trans hR)⟩
end Go.Proofs.YtddffijipphfeaaDoor
