/-
  CONTRACTS OF LAYER 11's REFERENCE: register, Valid, Encode, Decode, Defines.
-/
import Derived.Test.YtddffijipphfeaaDoorIsaRef
import Derived.Stop.BytesEq
namespace Go.Proofs.YtddffijipphfeaaDoor
open Go Go.RowKit Go.IntWalk
set_option linter.unusedSimpArgs false
set_option linter.unusedVariables false
set_option maxRecDepth 8000
section
variable {dst : Option Tmp} {ty : TypeId} {pos : String} {after : Array Edge} {g : Option (Nat × Bool)} {a : Act} {w : World} {T : Value → World → Prop}
end

theorem sh97 (op : Int) : (sh op).contains 97 = hasR op 0 := by unfold sh; cases hasR op 0 <;> cases hasR op 1 <;> cases hasR op 2 <;> cases hasI op <;> rfl
theorem sh98 (op : Int) : (sh op).contains 98 = hasR op 1 := by unfold sh; cases hasR op 0 <;> cases hasR op 1 <;> cases hasR op 2 <;> cases hasI op <;> rfl
theorem sh99 (op : Int) : (sh op).contains 99 = hasR op 2 := by unfold sh; cases hasR op 0 <;> cases hasR op 1 <;> cases hasR op 2 <;> cases hasI op <;> rfl
theorem sh105 (op : Int) : (sh op).contains 105 = hasI op := by unfold sh; cases hasR op 0 <;> cases hasR op 1 <;> cases hasR op 2 <;> cases hasI op <;> rfl
theorem sh_len (op : Int) : (sh op).length ≤ 4 := by unfold sh; cases hasR op 0 <;> cases hasR op 1 <;> cases hasR op 2 <;> cases hasI op <;> decide
theorem has_is (op : Int) (c : UInt8) (b : Bool) (hb : (sh op).contains c = b) (w : World) : Calls Tryd.prog 42 #[.string ⟨(sh op).toArray⟩, .int .u8 c.toNat] w fun e w' => e = .returned (.bool b) ∧ Grew w w' := by
  have h := has_any ⟨(sh op).toArray⟩ c (by have := sh_len op; show (sh op).toArray.size ≤ 1000; simp; omega) w
  have e : (⟨(sh op).toArray⟩ : ByteArray).data.toList = sh op := by simp
  rw [e, hb] at h
  exact h
theorem has97 (op : Int) (b : Bool) (hb : hasR op 0 = b) (w : World) : Calls Tryd.prog 42 #[.string ⟨(sh op).toArray⟩, .int .u8 97] w fun e w' => e = .returned (.bool b) ∧ Grew w w' := has_is op 97 b ((sh97 op).trans hb) w
theorem has98 (op : Int) (b : Bool) (hb : hasR op 1 = b) (w : World) : Calls Tryd.prog 42 #[.string ⟨(sh op).toArray⟩, .int .u8 98] w fun e w' => e = .returned (.bool b) ∧ Grew w w' := has_is op 98 b ((sh98 op).trans hb) w
theorem has99 (op : Int) (b : Bool) (hb : hasR op 2 = b) (w : World) : Calls Tryd.prog 42 #[.string ⟨(sh op).toArray⟩, .int .u8 99] w fun e w' => e = .returned (.bool b) ∧ Grew w w' := has_is op 99 b ((sh99 op).trans hb) w
theorem has105 (op : Int) (b : Bool) (hb : hasI op = b) (w : World) : Calls Tryd.prog 42 #[.string ⟨(sh op).toArray⟩, .int .u8 105] w fun e w' => e = .returned (.bool b) ∧ Grew w w' := has_is op 105 b ((sh105 op).trans hb) w
theorem below_is (op R : Int) (h : rbel op = R) (w : World) : Calls Tryd.prog 43 #[.int .i64 op] w fun e w' => e = .returned (.int .i64 R) ∧ Grew w w' := h ▸ below_any op w
theorem ok_f (n : Int) : (n == 0) = ok false n := by rw [Bool.eq_iff_iff]; simp [ok]; omega
theorem ok_t1 {n : Int} (h : 0 ≤ n) : decide (n < 8) = ok true n := by rw [Bool.eq_iff_iff]; simp [ok]; omega
theorem ok_t0 {n : Int} (h : n < 0) : false = ok true n := by rw [Bool.eq_iff_iff]; simp [ok]; omega
theorem register_raw (op : Int) (c n : Int) (h b : Bool) (hc : ∀ w, Calls Tryd.prog 42 #[.string ⟨(sh op).toArray⟩, .int .u8 c] w fun e w' => e = .returned (.bool h) ∧ Grew w w') (hb : ok h n = b) (w : World) :
    Calls Tryd.prog 41 #[.string ⟨(sh op).toArray⟩, .int .u8 c, .int .i64 n] w fun e w' => e = .returned (.bool b) ∧ Grew w w' := by
  have HC := Lib.hid hc
  have HB1 := Lib.hid hb
  clear hc hb
  cases h
  · go_enter Tryd.func41, Tryd.ntmps41
    go_wp2_with (go_at_call 42; (with_reducible refine (HC.out _).mono ?_); rintro e w1 ⟨rfl, g1⟩; have HB := Lib.hid g1; clear g1)
    go_ret
    exact ⟨ret_bool ((ok_f n).trans HB1.out), HB.out⟩
  · go_enter Tryd.func41, Tryd.ntmps41
    go_wp2_with (go_at_call 42; (with_reducible refine (HC.out _).mono ?_); rintro e w1 ⟨rfl, g1⟩; have HB := Lib.hid g1; clear g1)
    all_goals go_ret
    · exact ⟨ret_bool ((ok_t1 (by assumption)).trans HB1.out), HB.out⟩
    · exact ⟨ret_bool ((ok_t0 (by assumption)).trans HB1.out), HB.out⟩
theorem reg97 (op n : Int) (b : Bool) (hb : ok (hasR op 0) n = b) (w : World) : Calls Tryd.prog 41 #[.string ⟨(sh op).toArray⟩, .int .u8 97, .int .i64 n] w fun e w' => e = .returned (.bool b) ∧ Grew w w' := register_raw op 97 n _ b (has97 op _ rfl) hb w
theorem reg98 (op n : Int) (b : Bool) (hb : ok (hasR op 1) n = b) (w : World) : Calls Tryd.prog 41 #[.string ⟨(sh op).toArray⟩, .int .u8 98, .int .i64 n] w fun e w' => e = .returned (.bool b) ∧ Grew w w' := register_raw op 98 n _ b (has98 op _ rfl) hb w
theorem reg99 (op n : Int) (b : Bool) (hb : ok (hasR op 2) n = b) (w : World) : Calls Tryd.prog 41 #[.string ⟨(sh op).toArray⟩, .int .u8 99, .int .i64 n] w fun e w' => e = .returned (.bool b) ∧ Grew w w' := register_raw op 99 n _ b (has99 op _ rfl) hb w
/-- The last part of validity, as the program and as the reference say it. -/
def tailP (op i : Int) : Bool := !((opr op).ev && i.tmod 2 != 0) && (!(opr op).mn.isEmpty && (decide ((opr op).lo ≤ i) && decide (i ≤ (opr op).hi)))
def tailR (M I : Bool) (op R i : Int) : Bool := if M then false else if !I then i == 0 else if op == 2 then true else if R == 16383 && i.tmod 2 != 0 then false else decide (0 ≤ i) && decide (i < R)
theorem tab_tail : ∀ k : Fin 31, ((opr (k.val : Int)).mn.isEmpty = true) ∨ (hasI (k.val : Int) = false ∧ (opr (k.val : Int)).lo = 0 ∧ (opr (k.val : Int)).hi = 0 ∧ (opr (k.val : Int)).ev = false) ∨ (hasI (k.val : Int) = true ∧ ((k.val : Int) == 2) = true ∧ (opr (k.val : Int)).lo = -32768 ∧ (opr (k.val : Int)).hi = 32767 ∧ (opr (k.val : Int)).ev = false) ∨ (hasI (k.val : Int) = true ∧ ((k.val : Int) == 2) = false ∧ (opr (k.val : Int)).lo = 0 ∧ rbel (k.val : Int) = (opr (k.val : Int)).hi + 1 ∧ (opr (k.val : Int)).ev = (rbel (k.val : Int) == 16383)) := by decide
theorem tail_eq (op i : Int) (h : -32768 ≤ i ∧ i ≤ 32767) : tailP op i = tailR (opr op).mn.isEmpty (hasI op) op (rbel op) i := by
  rcases op_cases op with ho | ⟨k, rfl⟩
  · unfold tailP tailR; rw [opr_out ho]; simp [Opr.no]
  · unfold tailP tailR
    rcases tab_tail k with h1 | ⟨h1, h2, h3, h4⟩ | ⟨h1, h2, h3, h4, h5⟩ | ⟨h1, h2, h3, h4, h5⟩
    · rw [h1]; simp
    · rw [h1, h2, h3, h4]
      cases (opr (k.val : Int)).mn.isEmpty
      · rw [Bool.eq_iff_iff]; simp; omega
      · simp
    · rw [h1, h2, h3, h4, h5]
      cases (opr (k.val : Int)).mn.isEmpty
      · rw [Bool.eq_iff_iff]; simp; omega
      · simp
    · rw [h1, h2, h3, h5, h4]
      cases (opr (k.val : Int)).mn.isEmpty
      · generalize (opr (k.val : Int)).hi = H
        by_cases hr : (H + 1 == 16383) = true
        · rw [hr]
          by_cases hm : (i.tmod 2 != 0) = true
          · rw [hm]; simp
          · rw [Bool.not_eq_true] at hm; rw [hm, Bool.eq_iff_iff]; simp; omega
        · rw [Bool.not_eq_true] at hr; rw [hr, Bool.eq_iff_iff]; simp; omega
      · simp
theorem valid_parts (x : Cd) : valid x = (ok (hasR x.op 0) x.a && (ok (hasR x.op 1) x.b && (ok (hasR x.op 2) x.c && tailP x.op x.i))) := by
  have h3 : ((opr x.op).mn != []) = !(opr x.op).mn.isEmpty := by cases (opr x.op).mn <;> rfl
  unfold valid tailP
  rw [h3]
set_option maxHeartbeats 8000000 in
theorem rvalid_any (x : Cd) (w : World) (hi : -32768 ≤ x.i ∧ x.i ≤ 32767) :
    Calls Tryd.prog 13 #[cdV x] w fun e w' => e = .returned (.bool (valid x)) ∧ Grew w w' := by
  obtain ⟨bA, HA⟩ : ∃ b, Hid (ok (hasR x.op 0) x.a = b) := ⟨_, Lib.hid rfl⟩
  obtain ⟨bB, HB1⟩ : ∃ b, Hid (ok (hasR x.op 1) x.b = b) := ⟨_, Lib.hid rfl⟩
  obtain ⟨bC, HC⟩ : ∃ b, Hid (ok (hasR x.op 2) x.c = b) := ⟨_, Lib.hid rfl⟩
  obtain ⟨bI, HI⟩ : ∃ b, Hid (hasI x.op = b) := ⟨_, Lib.hid rfl⟩
  obtain ⟨R, HR⟩ : ∃ R, Hid (rbel x.op = R) := ⟨_, Lib.hid rfl⟩
  have HV : Hid (valid x = (bA && (bB && (bC && tailR (opr x.op).mn.isEmpty bI x.op R x.i)))) := Lib.hid (by rw [valid_parts, HA.out, HB1.out, HC.out, tail_eq x.op x.i hi, HI.out, HR.out])
  have hi1 := hi.1
  have hi2 := hi.2
  clear hi
  have HB := Lib.hid (Grew.refl w)
  have tk0 := Lib.hid trivial
  have tk1 := Lib.hid trivial
  have tk2 := Lib.hid trivial
  have tk3 := Lib.hid trivial
  have tk4 := Lib.hid trivial
  have tk5 := Lib.hid trivial
  have tk6 := Lib.hid trivial
  have tk7 := Lib.hid trivial
  go_enter Tryd.func13, Tryd.ntmps13
  go_wp2_with (first
    | (go_at_call 39; clear tk0; generalize hW : World.alloc _ _ = V; have bx : Blk (w.heap.size) [.int .i64 x.op, .int .i64 x.a, .int .i64 x.b, .int .i64 x.c, .int .i16 x.i] 24 V := (by subst hW; exact Blk.grew (w := (w.alloc (.cells #[.int .i64 x.op, .int .i64 x.a, .int .i64 x.b, .int .i64 x.c, .int .i16 x.i] 24))) (by simpa using Blk.new w [.int .i64 x.op, .int .i64 x.a, .int .i64 x.b, .int .i64 x.c, .int .i16 x.i] 24) (by repeat (first | with_reducible exact Grew.refl _ | with_reducible refine Grew.alloc ?_ _ | with_reducible refine Grew.drw ?_ | with_reducible refine Grew.drwN ?_ _ | with_reducible refine Grew.sc ?_ (by first | omega | (simp <;> omega)) _ _))); replace HB : Hid (Grew w V) := Lib.hid (by subst hW; repeat (first | with_reducible exact HB.out | with_reducible refine Grew.sc ?_ (by first | omega | (simp <;> omega)) _ _ | with_reducible refine Grew.alloc ?_ _ | with_reducible refine Grew.drw ?_ | with_reducible refine Grew.drwN ?_ _)); clear hW; (with_reducible refine (mnemonic_any x.op _).mono ?_); rintro e w1 ⟨rfl, g1⟩; replace bx := bx.grew g1; replace HB := Lib.hid (HB.out.trans g1); clear g1; have bx0 := bx.cell 0; have bx1 := bx.cell 1; have bx2 := bx.cell 2; have bx3 := bx.cell 3; have bx4 := bx.cell 4; have bxf := bx.free; have bxl := bx.lt; simp only [List.getElem?_cons_zero, List.getElem?_cons_succ] at bx0 bx1 bx2 bx3 bx4 bxl)
    | (go_at_call 40; clear tk1; (with_reducible refine (shape_any x.op _).mono ?_); rintro e w2 ⟨rfl, g1⟩; clear bx0 bx1 bx2 bx3 bx4 bxf bxl; replace bx := bx.grew g1; replace HB := Lib.hid (HB.out.trans g1); clear g1; have bx0 := bx.cell 0; have bx1 := bx.cell 1; have bx2 := bx.cell 2; have bx3 := bx.cell 3; have bx4 := bx.cell 4; have bxf := bx.free; have bxl := bx.lt; simp only [List.getElem?_cons_zero, List.getElem?_cons_succ] at bx0 bx1 bx2 bx3 bx4 bxl)
    | (go_at_call 41; clear tk2; (with_reducible refine (reg97 x.op x.a bA HA.out _).mono ?_); rintro e w3 ⟨rfl, g1⟩; clear bx0 bx1 bx2 bx3 bx4 bxf bxl; replace bx := bx.grew g1; replace HB := Lib.hid (HB.out.trans g1); clear g1; have bx0 := bx.cell 0; have bx1 := bx.cell 1; have bx2 := bx.cell 2; have bx3 := bx.cell 3; have bx4 := bx.cell 4; have bxf := bx.free; have bxl := bx.lt; simp only [List.getElem?_cons_zero, List.getElem?_cons_succ] at bx0 bx1 bx2 bx3 bx4 bxl)
    | (go_at_call 41; clear tk3; (with_reducible refine (reg98 x.op x.b bB HB1.out _).mono ?_); rintro e w4 ⟨rfl, g1⟩; clear bx0 bx1 bx2 bx3 bx4 bxf bxl; replace bx := bx.grew g1; replace HB := Lib.hid (HB.out.trans g1); clear g1; have bx0 := bx.cell 0; have bx1 := bx.cell 1; have bx2 := bx.cell 2; have bx3 := bx.cell 3; have bx4 := bx.cell 4; have bxf := bx.free; have bxl := bx.lt; simp only [List.getElem?_cons_zero, List.getElem?_cons_succ] at bx0 bx1 bx2 bx3 bx4 bxl)
    | (go_at_call 41; clear tk4; (with_reducible refine (reg99 x.op x.c bC HC.out _).mono ?_); rintro e w5 ⟨rfl, g1⟩; clear bx0 bx1 bx2 bx3 bx4 bxf bxl; replace bx := bx.grew g1; replace HB := Lib.hid (HB.out.trans g1); clear g1; have bx0 := bx.cell 0; have bx1 := bx.cell 1; have bx2 := bx.cell 2; have bx3 := bx.cell 3; have bx4 := bx.cell 4; have bxf := bx.free; have bxl := bx.lt; simp only [List.getElem?_cons_zero, List.getElem?_cons_succ] at bx0 bx1 bx2 bx3 bx4 bxl)
    | (go_at_call 42; clear tk5; (with_reducible refine (has105 x.op bI HI.out _).mono ?_); rintro e w6 ⟨rfl, g1⟩; clear bx0 bx1 bx2 bx3 bx4 bxf bxl; replace bx := bx.grew g1; replace HB := Lib.hid (HB.out.trans g1); clear g1; have bx0 := bx.cell 0; have bx1 := bx.cell 1; have bx2 := bx.cell 2; have bx3 := bx.cell 3; have bx4 := bx.cell 4; have bxf := bx.free; have bxl := bx.lt; simp only [List.getElem?_cons_zero, List.getElem?_cons_succ] at bx0 bx1 bx2 bx3 bx4 bxl)
    | (go_at_call 43; clear tk6; (with_reducible refine (below_is x.op R HR.out _).mono ?_); rintro e w7 ⟨rfl, g1⟩; clear bx0 bx1 bx2 bx3 bx4 bxf bxl; replace bx := bx.grew g1; replace HB := Lib.hid (HB.out.trans g1); clear g1; have bx0 := bx.cell 0; have bx1 := bx.cell 1; have bx2 := bx.cell 2; have bx3 := bx.cell 3; have bx4 := bx.cell 4; have bxf := bx.free; have bxl := bx.lt; simp only [List.getElem?_cons_zero, List.getElem?_cons_succ] at bx0 bx1 bx2 bx3 bx4 bxl)
    | (go_at_call 43; clear tk7; (with_reducible refine (below_is x.op R HR.out _).mono ?_); rintro e w8 ⟨rfl, g1⟩; clear bx0 bx1 bx2 bx3 bx4 bxf bxl; replace bx := bx.grew g1; replace HB := Lib.hid (HB.out.trans g1); clear g1; have bx0 := bx.cell 0; have bx1 := bx.cell 1; have bx2 := bx.cell 2; have bx3 := bx.cell 3; have bx4 := bx.cell 4; have bxf := bx.free; have bxl := bx.lt; simp only [List.getElem?_cons_zero, List.getElem?_cons_succ] at bx0 bx1 bx2 bx3 bx4 bxl))
  all_goals (go_ret; refine ⟨ret_bool ?_, HB.out⟩; rw [HV.out]; clear HV HA HB1 HC HI HR HB; unfold tailR; clear bx bx0 bx1 bx2 bx3 bx4 bxf bxl; first | (simp [*]; done) | (simp [*]; omega) | (simp_all; done) | (simp_all; omega))
theorem rvalid_is (x : Cd) (w : World) (b : Bool) (hb : valid x = b) (hi : -32768 ≤ x.i ∧ x.i ≤ 32767) :
    Calls Tryd.prog 13 #[cdV x] w fun e w' => e = .returned (.bool b) ∧ Grew w w' := hb ▸ rvalid_any x w hi
theorem rencode_no (x : Cd) (hv : valid x = false) (hi : -32768 ≤ x.i ∧ x.i ≤ 32767) (w : World) :
    Calls Tryd.prog 15 #[cdV x] w fun e w' => e = .returned (.tuple #[.agg #[.int .u8 0, .int .u8 0, .int .u8 0, .int .u8 0], .int .i64 1]) ∧ Grew w w' := by
  have HV := Lib.hid hv
  have HI := Lib.hid hi
  clear hv hi
  have HB := Lib.hid (Grew.refl w)
  have tk0 := Lib.hid trivial
  go_enter Tryd.func15, Tryd.ntmps15
  go_wp2_with (first
    | (go_at_call 13; clear tk0; have ne_bz_bx := Lib.hid (show w.heap.size + 1 ≠ w.heap.size by omega); generalize hW : World.alloc _ _ = V; have bx : Blk (w.heap.size) [.int .i64 x.op, .int .i64 x.a, .int .i64 x.b, .int .i64 x.c, .int .i16 x.i] 24 V := (by subst hW; exact Blk.grew (w := (w.alloc (.cells #[.int .i64 x.op, .int .i64 x.a, .int .i64 x.b, .int .i64 x.c, .int .i16 x.i] 24))) (by simpa using Blk.new w [.int .i64 x.op, .int .i64 x.a, .int .i64 x.b, .int .i64 x.c, .int .i16 x.i] 24) (by repeat (first | with_reducible exact Grew.refl _ | with_reducible refine Grew.alloc ?_ _ | with_reducible refine Grew.drw ?_ | with_reducible refine Grew.drwN ?_ _ | with_reducible refine Grew.sc ?_ (by first | omega | (simp <;> omega)) _ _))); have bz : Blk (w.heap.size + 1) [.int .u8 0, .int .u8 0, .int .u8 0, .int .u8 0] 27 V := (by subst hW; exact Blk.grew (w := ((w.alloc (.cells #[.int .i64 x.op, .int .i64 x.a, .int .i64 x.b, .int .i64 x.c, .int .i16 x.i] 24)).alloc (.cells #[.int .u8 0, .int .u8 0, .int .u8 0, .int .u8 0] 27))) (by simpa using Blk.new (w.alloc (.cells #[.int .i64 x.op, .int .i64 x.a, .int .i64 x.b, .int .i64 x.c, .int .i16 x.i] 24)) [.int .u8 0, .int .u8 0, .int .u8 0, .int .u8 0] 27) (by repeat (first | with_reducible exact Grew.refl _ | with_reducible refine Grew.alloc ?_ _ | with_reducible refine Grew.drw ?_ | with_reducible refine Grew.drwN ?_ _ | with_reducible refine Grew.sc ?_ (by first | omega | (simp <;> omega)) _ _))); replace HB : Hid (Grew w V) := Lib.hid (by subst hW; repeat (first | with_reducible exact HB.out | with_reducible refine Grew.sc ?_ (by first | omega | (simp <;> omega)) _ _ | with_reducible refine Grew.alloc ?_ _ | with_reducible refine Grew.drw ?_ | with_reducible refine Grew.drwN ?_ _)); clear hW; (with_reducible refine (rvalid_is x _ false HV.out HI.out).mono ?_); rintro e w1 ⟨rfl, g1⟩; replace bx := bx.grew g1; replace bz := bz.grew g1; replace HB := Lib.hid (HB.out.trans g1); clear g1; have bx0 := bx.cell 0; have bx1 := bx.cell 1; have bx2 := bx.cell 2; have bx3 := bx.cell 3; have bx4 := bx.cell 4; have bxf := bx.free; have bxl := bx.lt; simp only [List.getElem?_cons_zero, List.getElem?_cons_succ] at bx0 bx1 bx2 bx3 bx4 bxl; have bz0 := bz.cell 0; have bz1 := bz.cell 1; have bz2 := bz.cell 2; have bz3 := bz.cell 3; have bzf := bz.free; have bzl := bz.lt; simp only [List.getElem?_cons_zero, List.getElem?_cons_succ] at bz0 bz1 bz2 bz3 bzl))
  refine rn_ret_c27_t Tryd.results15 (S0 := (w.heap.size + 1)) (v0_0 := .int .u8 0) (v0_1 := .int .u8 0) (v0_2 := .int .u8 0) (v0_3 := .int .u8 0) (v1 := .int .i64 1) rfl (by go_simp) (by go_simp) (by go_simp) (by go_simp) rfl ⟨?_, ?_⟩
  · rfl
  · repeat (first | with_reducible exact HB.out | with_reducible exact Grew.refl _ | with_reducible refine Grew.sc ?_ (by first | omega | (simp <;> omega)) _ _ | with_reducible refine Grew.alloc ?_ _ | with_reducible refine Grew.drw ?_)
theorem rencode_true (x : Cd) (hv : valid x = true) (hc : hasR x.op 2 = true) (w : World) :
    Calls Tryd.prog 15 #[cdV x] w fun e w' => e = .returned (.tuple #[.agg #[.int .u8 x.op, .int .u8 (x.a + 16 * x.b), .int .u8 (last x % 256), .int .u8 (last x / 256)], .int .i64 0]) ∧ Grew w w' := by
  obtain ⟨hop, ha, hb, hcc, hi, hz1, hz2⟩ := valid_bd hv
  have HV := Lib.hid hv
  have HI := Lib.hid hi
  have HC := Lib.hid hc
  have hl : last x = x.c := by unfold last; rw [hc]; simp [IntKind.wrap_u16]
  have hb2 : 0 ≤ last x ∧ last x < 65536 := by unfold last; split <;> omega
  clear hz1 hz2 hv hc
  rw [hl]; clear hb2 hl hi
  have HB := Lib.hid (Grew.refl w)
  have tk0 := Lib.hid trivial
  have tk1 := Lib.hid trivial
  have tk2 := Lib.hid trivial
  go_enter Tryd.func15, Tryd.ntmps15
  go_wp2_with (first
    | (go_at_call 13; clear tk0; have ne_bz_bx := Lib.hid (show w.heap.size + 1 ≠ w.heap.size by omega); generalize hW : World.alloc _ _ = V; have bx : Blk (w.heap.size) [.int .i64 x.op, .int .i64 x.a, .int .i64 x.b, .int .i64 x.c, .int .i16 x.i] 24 V := (by subst hW; exact Blk.grew (w := (w.alloc (.cells #[.int .i64 x.op, .int .i64 x.a, .int .i64 x.b, .int .i64 x.c, .int .i16 x.i] 24))) (by simpa using Blk.new w [.int .i64 x.op, .int .i64 x.a, .int .i64 x.b, .int .i64 x.c, .int .i16 x.i] 24) (by repeat (first | with_reducible exact Grew.refl _ | with_reducible refine Grew.alloc ?_ _ | with_reducible refine Grew.drw ?_ | with_reducible refine Grew.drwN ?_ _ | with_reducible refine Grew.sc ?_ (by first | omega | (simp <;> omega)) _ _))); have bz : Blk (w.heap.size + 1) [.int .u8 0, .int .u8 0, .int .u8 0, .int .u8 0] 27 V := (by subst hW; exact Blk.grew (w := ((w.alloc (.cells #[.int .i64 x.op, .int .i64 x.a, .int .i64 x.b, .int .i64 x.c, .int .i16 x.i] 24)).alloc (.cells #[.int .u8 0, .int .u8 0, .int .u8 0, .int .u8 0] 27))) (by simpa using Blk.new (w.alloc (.cells #[.int .i64 x.op, .int .i64 x.a, .int .i64 x.b, .int .i64 x.c, .int .i16 x.i] 24)) [.int .u8 0, .int .u8 0, .int .u8 0, .int .u8 0] 27) (by repeat (first | with_reducible exact Grew.refl _ | with_reducible refine Grew.alloc ?_ _ | with_reducible refine Grew.drw ?_ | with_reducible refine Grew.drwN ?_ _ | with_reducible refine Grew.sc ?_ (by first | omega | (simp <;> omega)) _ _))); replace HB : Hid (Grew w V) := Lib.hid (by subst hW; repeat (first | with_reducible exact HB.out | with_reducible refine Grew.sc ?_ (by first | omega | (simp <;> omega)) _ _ | with_reducible refine Grew.alloc ?_ _ | with_reducible refine Grew.drw ?_ | with_reducible refine Grew.drwN ?_ _)); clear hW; (with_reducible refine (rvalid_is x _ true HV.out HI.out).mono ?_); rintro e w1 ⟨rfl, g1⟩; replace bx := bx.grew g1; replace bz := bz.grew g1; replace HB := Lib.hid (HB.out.trans g1); clear g1; have bx0 := bx.cell 0; have bx1 := bx.cell 1; have bx2 := bx.cell 2; have bx3 := bx.cell 3; have bx4 := bx.cell 4; have bxf := bx.free; have bxl := bx.lt; simp only [List.getElem?_cons_zero, List.getElem?_cons_succ] at bx0 bx1 bx2 bx3 bx4 bxl; have bz0 := bz.cell 0; have bz1 := bz.cell 1; have bz2 := bz.cell 2; have bz3 := bz.cell 3; have bzf := bz.free; have bzl := bz.lt; simp only [List.getElem?_cons_zero, List.getElem?_cons_succ] at bz0 bz1 bz2 bz3 bzl)
    | (go_at_call 40; clear tk1; (with_reducible refine (shape_any x.op _).mono ?_); rintro e w2 ⟨rfl, g1⟩; clear bx0 bx1 bx2 bx3 bx4 bxf bxl; replace bx := bx.grew g1; clear bz0 bz1 bz2 bz3 bzf bzl; replace bz := bz.grew g1; replace HB := Lib.hid (HB.out.trans g1); clear g1; have bx0 := bx.cell 0; have bx1 := bx.cell 1; have bx2 := bx.cell 2; have bx3 := bx.cell 3; have bx4 := bx.cell 4; have bxf := bx.free; have bxl := bx.lt; simp only [List.getElem?_cons_zero, List.getElem?_cons_succ] at bx0 bx1 bx2 bx3 bx4 bxl; have bz0 := bz.cell 0; have bz1 := bz.cell 1; have bz2 := bz.cell 2; have bz3 := bz.cell 3; have bzf := bz.free; have bzl := bz.lt; simp only [List.getElem?_cons_zero, List.getElem?_cons_succ] at bz0 bz1 bz2 bz3 bzl)
    | (go_at_call 42; clear tk2; (with_reducible refine (has99 x.op true HC.out _).mono ?_); rintro e w3 ⟨rfl, g1⟩; clear bx0 bx1 bx2 bx3 bx4 bxf bxl; replace bx := bx.grew g1; clear bz0 bz1 bz2 bz3 bzf bzl; replace bz := bz.grew g1; replace HB := Lib.hid (HB.out.trans g1); clear g1; have bx0 := bx.cell 0; have bx1 := bx.cell 1; have bx2 := bx.cell 2; have bx3 := bx.cell 3; have bx4 := bx.cell 4; have bxf := bx.free; have bxl := bx.lt; simp only [List.getElem?_cons_zero, List.getElem?_cons_succ] at bx0 bx1 bx2 bx3 bx4 bxl; have bz0 := bz.cell 0; have bz1 := bz.cell 1; have bz2 := bz.cell 2; have bz3 := bz.cell 3; have bzf := bz.free; have bzl := bz.lt; simp only [List.getElem?_cons_zero, List.getElem?_cons_succ] at bz0 bz1 bz2 bz3 bzl))
  refine rn_ret_c27_t Tryd.results15 (S0 := (w.heap.size + 1)) (v0_0 := .int .u8 x.op) (v0_1 := .int .u8 (x.a + 16 * x.b)) (v0_2 := .int .u8 (x.c)) (v0_3 := .int .u8 (x.c / 256)) (v1 := .int .i64 0) rfl (by go_simp) (by go_simp) (by go_simp) (by go_simp) rfl ⟨?_, ?_⟩
  · rw [show x.c % 256 = x.c by omega]
  · repeat (first | with_reducible exact HB.out | with_reducible exact Grew.refl _ | with_reducible refine Grew.sc ?_ (by first | omega | (simp <;> omega)) _ _ | with_reducible refine Grew.alloc ?_ _ | with_reducible refine Grew.drw ?_)
theorem rencode_false (x : Cd) (hv : valid x = true) (hc : hasR x.op 2 = false) (w : World) :
    Calls Tryd.prog 15 #[cdV x] w fun e w' => e = .returned (.tuple #[.agg #[.int .u8 x.op, .int .u8 (x.a + 16 * x.b), .int .u8 (last x % 256), .int .u8 (last x / 256)], .int .i64 0]) ∧ Grew w w' := by
  obtain ⟨hop, ha, hb, hcc, hi, hz1, hz2⟩ := valid_bd hv
  have HV := Lib.hid hv
  have HI := Lib.hid hi
  have HC := Lib.hid hc
  have hl : last x = IntKind.u16.wrap x.i := by unfold last; rw [hc]; simp [IntKind.wrap_u16]
  have hb2 : 0 ≤ last x ∧ last x < 65536 := by unfold last; split <;> omega
  clear hz1 hz2 hv hc
  generalize last x = L at hl hb2 ⊢; have hl1 := hl.symm; clear hl hi
  have HB := Lib.hid (Grew.refl w)
  have tk0 := Lib.hid trivial
  have tk1 := Lib.hid trivial
  have tk2 := Lib.hid trivial
  go_enter Tryd.func15, Tryd.ntmps15
  go_wp2_with (first
    | (go_at_call 13; clear tk0; have ne_bz_bx := Lib.hid (show w.heap.size + 1 ≠ w.heap.size by omega); generalize hW : World.alloc _ _ = V; have bx : Blk (w.heap.size) [.int .i64 x.op, .int .i64 x.a, .int .i64 x.b, .int .i64 x.c, .int .i16 x.i] 24 V := (by subst hW; exact Blk.grew (w := (w.alloc (.cells #[.int .i64 x.op, .int .i64 x.a, .int .i64 x.b, .int .i64 x.c, .int .i16 x.i] 24))) (by simpa using Blk.new w [.int .i64 x.op, .int .i64 x.a, .int .i64 x.b, .int .i64 x.c, .int .i16 x.i] 24) (by repeat (first | with_reducible exact Grew.refl _ | with_reducible refine Grew.alloc ?_ _ | with_reducible refine Grew.drw ?_ | with_reducible refine Grew.drwN ?_ _ | with_reducible refine Grew.sc ?_ (by first | omega | (simp <;> omega)) _ _))); have bz : Blk (w.heap.size + 1) [.int .u8 0, .int .u8 0, .int .u8 0, .int .u8 0] 27 V := (by subst hW; exact Blk.grew (w := ((w.alloc (.cells #[.int .i64 x.op, .int .i64 x.a, .int .i64 x.b, .int .i64 x.c, .int .i16 x.i] 24)).alloc (.cells #[.int .u8 0, .int .u8 0, .int .u8 0, .int .u8 0] 27))) (by simpa using Blk.new (w.alloc (.cells #[.int .i64 x.op, .int .i64 x.a, .int .i64 x.b, .int .i64 x.c, .int .i16 x.i] 24)) [.int .u8 0, .int .u8 0, .int .u8 0, .int .u8 0] 27) (by repeat (first | with_reducible exact Grew.refl _ | with_reducible refine Grew.alloc ?_ _ | with_reducible refine Grew.drw ?_ | with_reducible refine Grew.drwN ?_ _ | with_reducible refine Grew.sc ?_ (by first | omega | (simp <;> omega)) _ _))); replace HB : Hid (Grew w V) := Lib.hid (by subst hW; repeat (first | with_reducible exact HB.out | with_reducible refine Grew.sc ?_ (by first | omega | (simp <;> omega)) _ _ | with_reducible refine Grew.alloc ?_ _ | with_reducible refine Grew.drw ?_ | with_reducible refine Grew.drwN ?_ _)); clear hW; (with_reducible refine (rvalid_is x _ true HV.out HI.out).mono ?_); rintro e w1 ⟨rfl, g1⟩; replace bx := bx.grew g1; replace bz := bz.grew g1; replace HB := Lib.hid (HB.out.trans g1); clear g1; have bx0 := bx.cell 0; have bx1 := bx.cell 1; have bx2 := bx.cell 2; have bx3 := bx.cell 3; have bx4 := bx.cell 4; have bxf := bx.free; have bxl := bx.lt; simp only [List.getElem?_cons_zero, List.getElem?_cons_succ] at bx0 bx1 bx2 bx3 bx4 bxl; have bz0 := bz.cell 0; have bz1 := bz.cell 1; have bz2 := bz.cell 2; have bz3 := bz.cell 3; have bzf := bz.free; have bzl := bz.lt; simp only [List.getElem?_cons_zero, List.getElem?_cons_succ] at bz0 bz1 bz2 bz3 bzl)
    | (go_at_call 40; clear tk1; (with_reducible refine (shape_any x.op _).mono ?_); rintro e w2 ⟨rfl, g1⟩; clear bx0 bx1 bx2 bx3 bx4 bxf bxl; replace bx := bx.grew g1; clear bz0 bz1 bz2 bz3 bzf bzl; replace bz := bz.grew g1; replace HB := Lib.hid (HB.out.trans g1); clear g1; have bx0 := bx.cell 0; have bx1 := bx.cell 1; have bx2 := bx.cell 2; have bx3 := bx.cell 3; have bx4 := bx.cell 4; have bxf := bx.free; have bxl := bx.lt; simp only [List.getElem?_cons_zero, List.getElem?_cons_succ] at bx0 bx1 bx2 bx3 bx4 bxl; have bz0 := bz.cell 0; have bz1 := bz.cell 1; have bz2 := bz.cell 2; have bz3 := bz.cell 3; have bzf := bz.free; have bzl := bz.lt; simp only [List.getElem?_cons_zero, List.getElem?_cons_succ] at bz0 bz1 bz2 bz3 bzl)
    | (go_at_call 42; clear tk2; (with_reducible refine (has99 x.op false HC.out _).mono ?_); rintro e w3 ⟨rfl, g1⟩; clear bx0 bx1 bx2 bx3 bx4 bxf bxl; replace bx := bx.grew g1; clear bz0 bz1 bz2 bz3 bzf bzl; replace bz := bz.grew g1; replace HB := Lib.hid (HB.out.trans g1); clear g1; have bx0 := bx.cell 0; have bx1 := bx.cell 1; have bx2 := bx.cell 2; have bx3 := bx.cell 3; have bx4 := bx.cell 4; have bxf := bx.free; have bxl := bx.lt; simp only [List.getElem?_cons_zero, List.getElem?_cons_succ] at bx0 bx1 bx2 bx3 bx4 bxl; have bz0 := bz.cell 0; have bz1 := bz.cell 1; have bz2 := bz.cell 2; have bz3 := bz.cell 3; have bzf := bz.free; have bzl := bz.lt; simp only [List.getElem?_cons_zero, List.getElem?_cons_succ] at bz0 bz1 bz2 bz3 bzl))
  refine rn_ret_c27_t Tryd.results15 (S0 := (w.heap.size + 1)) (v0_0 := .int .u8 x.op) (v0_1 := .int .u8 (x.a + 16 * x.b)) (v0_2 := .int .u8 (L % 256)) (v0_3 := .int .u8 (L / 256)) (v1 := .int .i64 0) rfl (by go_simp) (by go_simp) (by go_simp) (by go_simp) rfl ⟨?_, ?_⟩
  · rfl
  · repeat (first | with_reducible exact HB.out | with_reducible exact Grew.refl _ | with_reducible refine Grew.sc ?_ (by first | omega | (simp <;> omega)) _ _ | with_reducible refine Grew.alloc ?_ _ | with_reducible refine Grew.drw ?_)
/-- What encoding gives. -/
def encR (x : Cd) : Value := if valid x then .tuple #[.agg #[.int .u8 x.op, .int .u8 (x.a + 16 * x.b), .int .u8 (last x % 256), .int .u8 (last x / 256)], .int .i64 0] else .tuple #[.agg #[.int .u8 0, .int .u8 0, .int .u8 0, .int .u8 0], .int .i64 1]
theorem rencode_any (x : Cd) (hi : -32768 ≤ x.i ∧ x.i ≤ 32767) (w : World) :
    Calls Tryd.prog 15 #[cdV x] w fun e w' => e = .returned (encR x) ∧ Grew w w' := by
  unfold encR
  cases hv : valid x
  · exact rencode_no x hv hi w
  · cases hc : hasR x.op 2
    · exact rencode_false x hv hc w
    · exact rencode_true x hv hc w
theorem encode_any (x : Cd) (w : World) (hE : Env w) :
    Calls Tryd.prog 14 #[cdV x] w fun e w' => e = .returned (encR x) ∧ Grew w w' := by
  unfold encR
  cases hv : valid x
  · exact encode_no x hv w hE
  · exact encode_yes x hv w hE
theorem wrap16 (n : Int) : IntKind.i16.wrap n = (n + 32768) % 65536 - 32768 := by
  simp only [IntKind.wrap, IntKind.bits, IntKind.signed]; simp; split <;> omega
theorem wrap_mod (z : Int) : IntKind.i16.wrap z % 65536 = z % 65536 := by rw [wrap16]; omega
theorem size_u8 : ∀ w, (sizeOf 5).run Tryd.prog w = .ok 1 w := fun _ => by kernel_rfl
theorem same4 (a b c d : Int) (ha : 0 ≤ a ∧ a ≤ 255) (hb : 0 ≤ b ∧ b ≤ 255) (hc : 0 ≤ c ∧ c ≤ 255) (hd : 0 ≤ d ∧ d ≤ 255) (w : World) :
    (Op.equalIn 10000 27 (.agg #[.int .u8 a, .int .u8 b, .int .u8 c, .int .u8 d]) (.agg #[.int .u8 a, .int .u8 b, .int .u8 c, .int .u8 d])).run Tryd.prog w = .ok true w := by
  obtain ⟨x, rfl⟩ : ∃ x : UInt8, a = x.toNat := ⟨UInt8.ofNat a.toNat, by rw [UInt8.toNat_ofNat']; omega⟩
  obtain ⟨y, rfl⟩ : ∃ y : UInt8, b = y.toNat := ⟨UInt8.ofNat b.toNat, by rw [UInt8.toNat_ofNat']; omega⟩
  obtain ⟨z, rfl⟩ : ∃ z : UInt8, c = z.toNat := ⟨UInt8.ofNat c.toNat, by rw [UInt8.toNat_ofNat']; omega⟩
  obtain ⟨v, rfl⟩ : ∃ v : UInt8, d = v.toNat := ⟨UInt8.ofNat d.toNat, by rw [UInt8.toNat_ofNat']; omega⟩
  have := run_equalIn_bytes w 9998 27 5 4 Tryd.underlying27 Tryd.underlying5 size_u8 [x, y, z, v] [x, y, z, v] rfl rfl
  rw [show ([x, y, z, v] == [x, y, z, v]) = true by simp] at this
  exact this
theorem neq4 (a b c d : Int) (ha : 0 ≤ a ∧ a ≤ 255) (hb : 0 ≤ b ∧ b ≤ 255) (hc : 0 ≤ c ∧ c ≤ 255) (hd : 0 ≤ d ∧ d ≤ 255) (w : World) :
    (binOp .neq 27 (.agg #[.int .u8 a, .int .u8 b, .int .u8 c, .int .u8 d]) (.agg #[.int .u8 a, .int .u8 b, .int .u8 c, .int .u8 d])).run Tryd.prog w = .ok (.bool false) w := by
  rw [run_neq_struct, same4 a b c d ha hb hc hd w]
  rfl
theorem eql4 (a b c d : Int) (ha : 0 ≤ a ∧ a ≤ 255) (hb : 0 ≤ b ∧ b ≤ 255) (hc : 0 ≤ c ∧ c ≤ 255) (hd : 0 ≤ d ∧ d ≤ 255) (w : World) :
    (binOp .eql 27 (.agg #[.int .u8 a, .int .u8 b, .int .u8 c, .int .u8 d]) (.agg #[.int .u8 a, .int .u8 b, .int .u8 c, .int .u8 d])).run Tryd.prog w = .ok (.bool true) w := by
  rw [run_eql_struct, same4 a b c d ha hb hc hd w]
  rfl
theorem enc_cand (b0 b1 b2 b3 : Int) (k0 : 0 ≤ b0 ∧ b0 ≤ 255) (k1 : 0 ≤ b1 ∧ b1 ≤ 255) (k2 : 0 ≤ b2 ∧ b2 ≤ 255) (k3 : 0 ≤ b3 ∧ b3 ≤ 255) (hv : valid (cand b0 b1 b2 b3) = true) :
    encR (cand b0 b1 b2 b3) = .tuple #[.agg #[.int .u8 b0, .int .u8 b1, .int .u8 b2, .int .u8 b3], .int .i64 0] := by
  unfold encR
  rw [if_pos hv]
  unfold cand last
  cases hc : hasR b0 2
  · simp only [Bool.false_eq_true, if_false, hc]
    rw [wrap_mod, show b1 % 16 + 16 * (b1 / 16) = b1 by omega, show (b2 + 256 * b3) % 65536 % 256 = b2 by omega, show (b2 + 256 * b3) % 65536 / 256 = b3 by omega]
  · simp only [if_true, hc]
    rw [show b1 % 16 + 16 * (b1 / 16) = b1 by omega, show (b2 + 256 * b3) % 256 = b2 by omega, show (b2 + 256 * b3) / 256 = b3 by omega]
theorem encR_no {x : Cd} (hv : valid x = false) : encR x = .tuple #[.agg #[.int .u8 0, .int .u8 0, .int .u8 0, .int .u8 0], .int .i64 1] := by unfold encR; rw [hv]; rfl
theorem rencode_is (x : Cd) (v : Value) (hv : encR x = v) (hi : -32768 ≤ x.i ∧ x.i ≤ 32767) (w : World) :
    Calls Tryd.prog 15 #[cdV x] w fun e w' => e = .returned v ∧ Grew w w' := hv ▸ rencode_any x hi w
theorem w16_bd (z : Int) : -32768 ≤ IntKind.i16.wrap z ∧ IntKind.i16.wrap z ≤ 32767 := by rw [wrap16]; omega
end Go.Proofs.YtddffijipphfeaaDoor
