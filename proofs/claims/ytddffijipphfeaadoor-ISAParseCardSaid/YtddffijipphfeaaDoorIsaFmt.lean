/-
  CONTRACTS OF LAYER 11 (isa): Format.
-/
import Derived.Test.YtddffijipphfeaaDoorIsaNum
import Derived.Lib.Join
import Derived.Lib.ItoaLen
namespace Go.Proofs.YtddffijipphfeaaDoor
open Go Go.RowKit Go.IntWalk
open Go.Lib (itoa)
set_option linter.unusedSimpArgs false
set_option linter.unusedVariables false
set_option maxRecDepth 8000
section
variable {dst : Option Tmp} {ty : TypeId} {pos : String} {after : Array Edge} {g : Option (Nat × Bool)} {a : Act} {w : World} {T : Value → World → Prop}
theorem rn_fld_46_0 {x : Operand} {S o : Nat} (hx : a.eval x = .pointer (some ⟨S, o, none⟩)) (h : T (.pointer (some ⟨S, o, none⟩)) w) : Runs Tryd.prog ⟨dst, .fieldAddr 46 x 0, ty, pos, after, g⟩ a w T := by
  refine Runs.value (v := .pointer (some ⟨S, o, none⟩)) (w' := w) ?_ h
  simp only [execOp, hx]
  go_simp
theorem rn_ld_9 {x : Operand} {q : Addr} {v : Value} (hx : a.eval x = .pointer (some q)) (hc : w.cell? q = some v) (h : T v w) : Runs Tryd.prog ⟨dst, .load 9 x, ty, pos, after, g⟩ a w T := by
  refine Runs.value (v := v) (w' := w) ?_ h
  simp only [execOp, hx]
  go_simp
end

abbrev encS (s : List UInt8) : List Value := [.string ⟨s.toArray⟩]
theorem encSE : Enc 1 encS := ⟨fun _ => rfl, fun x u hu => by simp at hu; rcases hu with rfl; rfl, by decide⟩
theorem infoS : (Tryd.prog.info? 9).map (fun i => (i.zero, i.size, i.bytes)) = some (some (.string ⟨#[]⟩), 1, 16) := by kernel_rfl
theorem OwR.apart {α : Type} {k : Nat} {enc : α → List Value} {w : World} {base : Nat} {e e' : TypeId} {p : Option Addr} {n c : Nat} {xs : List α} (h : OwR w base e k enc (.slice p n c) xs) (he : e ≠ e') {S : Nat} {vs : List Value} (hb : Blk S vs e' w) : ¬ (Value.ownBlock (.slice p n c) = some S) := fun hs => by
  rcases h.2 with ⟨hv, _⟩ | ⟨g, cap, cur, hv, _, hg, _⟩
  · simp only [Value.slice.injEq] at hv
    rw [ownBlock_sl, hv.1] at hs
    cases hs
  · simp only [Value.slice.injEq] at hv
    rw [ownBlock_sl, hv.1] at hs
    obtain rfl : g = S := by simpa using hs
    have hb' : w.heap[g]? = _ := hb
    rw [hg] at hb'
    simp only [Option.some.injEq, Obj.cells.injEq] at hb'
    exact he hb'.2.1
theorem OwR.grew {α : Type} {k : Nat} {enc : α → List Value} {w w' : World} {base : Nat} {e : TypeId} {p : Option Addr} {n c : Nat} {xs : List α} (h : OwR w base e k enc (.slice p n c) xs) (hg : Grew w w') : OwR w' base e k enc (.slice p n c) xs := h.kept hg
theorem grew_grow (w : World) (k : Nat) (os : Array Obj) : Grew w (Sort.grow (w.drewN k) os) := by
  refine ⟨rfl, rfl, rfl, by simp [Sort.grow], fun i hi => ?_⟩
  simp [Sort.grow, Array.getElem?_append, hi]
theorem itoa_any (n : Int) (h0 : -32768 ≤ n) (h1 : n ≤ 32767) (w : World) (hE : Env w) : Calls Tryd.prog 45 #[.int .i64 n] w fun e w' => e = .returned (.string ⟨(itoa n).toArray⟩) ∧ Grew w w' :=
  (Tryd.strconv_Itoa n (by omega) (by omega) w hE.pow).mono fun _ _ ⟨h2, k, os, h3⟩ => ⟨h2, h3 ▸ grew_grow _ _ _⟩
theorem join_jn (xs : List (List UInt8)) : Lib.join xs [44, 32] = jn xs := by
  induction xs with
  | nil => rfl
  | cons x r ih =>
    cases r with
    | nil => exact Lib.join_one x _
    | cons y r =>
      rw [Lib.join_cons] at ih ⊢
      show x ++ Lib.joinTail [44, 32] (y :: r) = x ++ 44 :: 32 :: jn (y :: r)
      rw [← ih]
      simp [Lib.joinTail]
/-- The operands among the first k fields that are registers. -/
def opsK (x : Cd) (k : Nat) : List (List UInt8) := (List.range k).flatMap fun j => if hasR x.op j then [114 :: itoa (x.reg j)] else []
theorem opsK_len (x : Cd) (k : Nat) : (opsK x k).length ≤ k := by
  induction k with
  | zero => exact Nat.le_refl _
  | succ k ih =>
    unfold opsK at ih ⊢
    rw [List.range_succ, List.flatMap_append, List.length_append]
    have : ((List.flatMap (fun j => if hasR x.op j then [114 :: itoa (x.reg j)] else []) [k]).length) ≤ 1 := by simp; split <;> simp
    omega
theorem opsK_yes (x : Cd) (k : Nat) (h : hasR x.op k = true) : opsK x (k + 1) = opsK x k ++ [114 :: itoa (x.reg k)] := by
  unfold opsK
  rw [List.range_succ, List.flatMap_append]
  simp [h]
theorem opsK_y0 (x : Cd) (h : hasR x.op 0 = true) : opsK x 1 = opsK x 0 ++ [114 :: itoa x.a] := opsK_yes x 0 h
theorem opsK_y1 (x : Cd) (h : hasR x.op 1 = true) : opsK x 2 = opsK x 1 ++ [114 :: itoa x.b] := opsK_yes x 1 h
theorem opsK_y2 (x : Cd) (h : hasR x.op 2 = true) : opsK x 3 = opsK x 2 ++ [114 :: itoa x.c] := opsK_yes x 2 h
theorem opsK_no (x : Cd) (k : Nat) (h : hasR x.op k = false) : opsK x (k + 1) = opsK x k := by
  unfold opsK
  rw [List.range_succ, List.flatMap_append]
  simp [h]
theorem ops_all (x : Cd) : opsK x 3 ++ (if hasI x.op then [itoa x.i] else []) = (sh x.op).map (item x) := by
  unfold opsK sh
  show (List.flatMap _ [0, 1, 2]) ++ _ = _
  simp only [List.flatMap_cons, List.flatMap_nil]
  cases hasR x.op 0 <;> cases hasR x.op 1 <;> cases hasR x.op 2 <;> cases hasI x.op <;> rfl
theorem ops_i (x : Cd) (h : hasI x.op = true) : opsK x 3 ++ [itoa x.i] = (sh x.op).map (item x) := by rw [← ops_all, h]; rfl
theorem ops_n (x : Cd) (h : hasI x.op = false) : opsK x 3 = (sh x.op).map (item x) := by rw [← ops_all, h]; simp
theorem sh_i (op : Int) (h : hasI op = true) : sh op ≠ [] := by unfold sh; rw [h]; simp
theorem jn_len (m : Nat) : ∀ xs : List (List UInt8), (∀ x ∈ xs, x.length ≤ m) → (jn xs).length ≤ xs.length * (m + 2)
  | [], _ => Nat.zero_le _
  | [x], h => by have := h x (List.mem_singleton.2 rfl); simp [jn]; omega
  | x :: y :: r, h => by
    have h1 := h x (List.mem_cons_self ..)
    have h2 := jn_len m (y :: r) (fun z hz => h z (List.mem_cons_of_mem _ hz))
    show (x ++ 44 :: 32 :: jn (y :: r)).length ≤ _
    have h3 : (x :: y :: r).length * (m + 2) = (y :: r).length * (m + 2) + (m + 2) := by rw [List.length_cons, Nat.succ_mul]
    rw [List.length_append, List.length_cons, List.length_cons, h3]
    omega
theorem items_len (x : Cd) (ha : 0 ≤ x.a ∧ x.a ≤ 7) (hb : 0 ≤ x.b ∧ x.b ≤ 7) (hc : 0 ≤ x.c ∧ x.c ≤ 7) (hi : -32768 ≤ x.i ∧ x.i ≤ 32767) : (jn ((sh x.op).map (item x))).length ≤ 100 := by
  have h := jn_len 22 ((sh x.op).map (item x)) (fun z hz => by
    obtain ⟨ch, _, rfl⟩ := List.mem_map.1 hz
    have h1 := Lib.itoa_length_le x.a (by omega) (by omega)
    have h2 := Lib.itoa_length_le x.b (by omega) (by omega)
    have h3 := Lib.itoa_length_le x.c (by omega) (by omega)
    have h4 := Lib.itoa_length_le x.i (by omega) (by omega)
    unfold item
    split
    · rw [List.length_cons]; omega
    · split
      · rw [List.length_cons]; omega
      · split
        · rw [List.length_cons]; omega
        · omega)
  have h2 := sh_len x.op
  rw [List.length_map] at h
  omega
theorem hasImm_is (op : Int) (b : Bool) (hb : hasI op = b) (w : World) :
    Calls Tryd.prog 46 #[oprV (opr op)] w fun e w' => e = .returned (.bool b) ∧ Grew w w' := hb ▸ hasImm_raw (opr op) w
theorem enters_join : Enters Tryd.prog 47 := fun args w => by go_simp
theorem join_any (base : Nat) (p : Option Addr) (n c : Nat) (xs : List (List UInt8)) (w : World) (h : OwR w base 9 1 encS (.slice p n c) xs) (hL : xs ≠ []) (hl : (jn xs).length ≤ 100) :
    Calls Tryd.prog 47 #[.slice p n c, .string ⟨#[44, 32]⟩] w fun e w' => e = .returned (.string ⟨(jn xs).toArray⟩) ∧ Grew w w' := by
  obtain ⟨hn, hR⟩ := h.rd encSE
  rcases hR.parts with h0 | ⟨hp, b, o, rfl⟩
  · exact absurd h0 hL
  · have e1 : (xs.map fun s : List UInt8 => (⟨s.toArray⟩ : ByteArray)).map (fun s : ByteArray => s.data.toList) = xs := by
      rw [List.map_map]; exact List.map_id'' (fun s => by simp) xs
    obtain ⟨g, hg, _, hlt⟩ := h.at (by omega)
    obtain ⟨rfl, rfl⟩ : b = g ∧ o = 0 := by simpa using hg
    have hm : xs.length ≤ 140737488355328 := by
      have : ∀ l : List (List UInt8), l.length ≤ (jn l).length + 1 := fun l => by
        induction l with
        | nil => exact Nat.zero_le _
        | cons x r ih =>
          cases r with
          | nil => simp
          | cons y r => show _ ≤ (x ++ 44 :: 32 :: jn (y :: r)).length + 1; simp at ih ⊢; omega
      have := this xs
      omega
    have := Tryd.strings_Join b 0 c (xs.map fun s => ⟨s.toArray⟩) ⟨#[44, 32]⟩ w (fun j x hx => by
      rw [List.getElem?_map] at hx
      obtain ⟨s, hs, rfl⟩ := Option.map_eq_some_iff.1 hx
      have := hR.cell hs (j := 0) (v := .string ⟨s.toArray⟩) rfl
      simpa using this) hlt (by simpa using hm) (by have := hR.cap; simpa using this) (by rw [e1]; show (Lib.join xs [44, 32]).length ≤ _; rw [join_jn]; omega)
    rw [e1, List.length_map, ← hn] at this
    refine this.mono fun e w' ⟨h1, h2⟩ => ⟨?_, h2⟩
    rw [h1]
    show Ending.returned (.string ⟨(Lib.join xs [44, 32]).toArray⟩) = _
    rw [join_jn]
theorem format_no (x : Cd) (hv : valid x = false) (w : World) (hE : Env w) :
    Calls Tryd.prog 24 #[cdV x] w fun e w' => e = .returned (.string ⟨(fmt x).toArray⟩) ∧ Grew w w' := by
  rw [fmt_no hv]
  have HV := Lib.hid hv
  have HE := Lib.hid hE
  clear hE hv
  have HB := Lib.hid (Grew.refl w)
  have tk0 := Lib.hid trivial
  go_enter Tryd.func24, Tryd.ntmps24
  go_wp2_with (first
    | (go_at_call 12; clear tk0; generalize hW : World.alloc _ _ = V; have bx : Blk (w.heap.size) [.int .i64 x.op, .int .i64 x.a, .int .i64 x.b, .int .i64 x.c, .int .i16 x.i] 24 V := (by subst hW; exact Blk.grew (w := (w.alloc (.cells #[.int .i64 x.op, .int .i64 x.a, .int .i64 x.b, .int .i64 x.c, .int .i16 x.i] 24))) (by simpa using Blk.new w [.int .i64 x.op, .int .i64 x.a, .int .i64 x.b, .int .i64 x.c, .int .i16 x.i] 24) (by repeat (first | with_reducible exact Grew.refl _ | with_reducible refine Grew.alloc ?_ _ | with_reducible refine Grew.drw ?_ | with_reducible refine Grew.drwN ?_ _ | with_reducible refine Grew.sc ?_ (by first | omega | (simp <;> omega)) _ _))); replace HB : Hid (Grew w V) := Lib.hid (by subst hW; repeat (first | with_reducible exact HB.out | with_reducible refine Grew.sc ?_ (by first | omega | (simp <;> omega)) _ _ | with_reducible refine Grew.alloc ?_ _ | with_reducible refine Grew.drw ?_ | with_reducible refine Grew.drwN ?_ _)); clear hW; (with_reducible refine (valid_is x _ false HV.out (HE.out.grew HB.out)).mono ?_); rintro e w1 ⟨rfl, g1⟩; replace bx := bx.grew g1; replace HB := Lib.hid (HB.out.trans g1); clear g1; have bx0 := bx.cell 0; have bx1 := bx.cell 1; have bx2 := bx.cell 2; have bx3 := bx.cell 3; have bx4 := bx.cell 4; have bxf := bx.free; have bxl := bx.lt; simp only [List.getElem?_cons_zero, List.getElem?_cons_succ] at bx0 bx1 bx2 bx3 bx4 bxl))
  go_ret
  exact ⟨rfl, HB.out⟩
set_option maxHeartbeats 8000000 in
theorem format_yes (x : Cd) (hv : valid x = true) (w : World) (hE : Env w) :
    Calls Tryd.prog 24 #[cdV x] w fun e w' => e = .returned (.string ⟨(fmt x).toArray⟩) ∧ Grew w w' := by
  rw [fmt_ok hv]
  obtain ⟨hop, ha, hb, hc, hi, hz1, hz2⟩ := valid_bd hv
  have HV := Lib.hid hv
  have HE := Lib.hid hE
  clear hE hv hz1 hz2
  have HB := Lib.hid (Grew.refl w)
  have tk0 := Lib.hid trivial
  have tk1 := Lib.hid trivial
  have tk2 := Lib.hid trivial
  go_enter Tryd.func24, Tryd.ntmps24
  go_wp2_with (first
    | (go_at_call 12; clear tk0; generalize hW : World.alloc _ _ = V; have bx : Blk (w.heap.size) [.int .i64 x.op, .int .i64 x.a, .int .i64 x.b, .int .i64 x.c, .int .i16 x.i] 24 V := (by subst hW; exact Blk.grew (w := (w.alloc (.cells #[.int .i64 x.op, .int .i64 x.a, .int .i64 x.b, .int .i64 x.c, .int .i16 x.i] 24))) (by simpa using Blk.new w [.int .i64 x.op, .int .i64 x.a, .int .i64 x.b, .int .i64 x.c, .int .i16 x.i] 24) (by repeat (first | with_reducible exact Grew.refl _ | with_reducible refine Grew.alloc ?_ _ | with_reducible refine Grew.drw ?_ | with_reducible refine Grew.drwN ?_ _ | with_reducible refine Grew.sc ?_ (by first | omega | (simp <;> omega)) _ _))); replace HB : Hid (Grew w V) := Lib.hid (by subst hW; repeat (first | with_reducible exact HB.out | with_reducible refine Grew.sc ?_ (by first | omega | (simp <;> omega)) _ _ | with_reducible refine Grew.alloc ?_ _ | with_reducible refine Grew.drw ?_ | with_reducible refine Grew.drwN ?_ _)); clear hW; (with_reducible refine (valid_is x _ true HV.out (HE.out.grew HB.out)).mono ?_); rintro e w1 ⟨rfl, g1⟩; replace bx := bx.grew g1; replace HB := Lib.hid (HB.out.trans g1); clear g1; have bx0 := bx.cell 0; have bx1 := bx.cell 1; have bx2 := bx.cell 2; have bx3 := bx.cell 3; have bx4 := bx.cell 4; have bxf := bx.free; have bxl := bx.lt; simp only [List.getElem?_cons_zero, List.getElem?_cons_succ] at bx0 bx1 bx2 bx3 bx4 bxl)
    | (go_at_call 35; clear tk1; (with_reducible refine (operationOf_any x.op _ (HE.out.grew HB.out)).mono ?_); rintro e w2 ⟨rfl, g1⟩; clear bx0 bx1 bx2 bx3 bx4 bxf bxl; replace bx := bx.grew g1; replace HB := Lib.hid (HB.out.trans g1); clear g1; have bx0 := bx.cell 0; have bx1 := bx.cell 1; have bx2 := bx.cell 2; have bx3 := bx.cell 3; have bx4 := bx.cell 4; have bxf := bx.free; have bxl := bx.lt; simp only [List.getElem?_cons_zero, List.getElem?_cons_succ] at bx0 bx1 bx2 bx3 bx4 bxl)
    | (go_at_call 36; clear tk2; have ne_bo_bx := Lib.hid (show w2.heap.size ≠ w.heap.size by omega); generalize hW : World.alloc _ _ = V; clear bx0 bx1 bx2 bx3 bx4 bxf bxl; replace bx : Blk (w.heap.size) [.int .i64 x.op, .int .i64 x.a, .int .i64 x.b, .int .i64 x.c, .int .i16 x.i] 24 V := (by subst hW; exact (bx.grew ((Grew.refl _).alloc _))); have bo : Blk (w2.heap.size) [.string ⟨(opr x.op).mn.toArray⟩, .int .u8 (opr x.op).wr, .int .u8 (opr x.op).rd, .int .i16 (opr x.op).lo, .int .i16 (opr x.op).hi, .bool (opr x.op).ev] 46 V := (by subst hW; exact Blk.grew (w := (w2.alloc (.cells #[.string ⟨(opr x.op).mn.toArray⟩, .int .u8 (opr x.op).wr, .int .u8 (opr x.op).rd, .int .i16 (opr x.op).lo, .int .i16 (opr x.op).hi, .bool (opr x.op).ev] 46))) (by simpa using Blk.new w2 [.string ⟨(opr x.op).mn.toArray⟩, .int .u8 (opr x.op).wr, .int .u8 (opr x.op).rd, .int .i16 (opr x.op).lo, .int .i16 (opr x.op).hi, .bool (opr x.op).ev] 46) (by repeat (first | with_reducible exact Grew.refl _ | with_reducible refine Grew.alloc ?_ _ | with_reducible refine Grew.drw ?_ | with_reducible refine Grew.drwN ?_ _ | with_reducible refine Grew.sc ?_ (by first | omega | (simp <;> omega)) _ _))); replace HB : Hid (Grew w V) := Lib.hid (by subst hW; repeat (first | with_reducible exact HB.out | with_reducible refine Grew.sc ?_ (by first | omega | (simp <;> omega)) _ _ | with_reducible refine Grew.alloc ?_ _ | with_reducible refine Grew.drw ?_ | with_reducible refine Grew.drwN ?_ _)); clear hW; (with_reducible refine (registersOf_any x _).mono ?_); rintro e w3 ⟨rfl, g1⟩; replace bx := bx.grew g1; replace bo := bo.grew g1; replace HB := Lib.hid (HB.out.trans g1); clear g1; have bx0 := bx.cell 0; have bx1 := bx.cell 1; have bx2 := bx.cell 2; have bx3 := bx.cell 3; have bx4 := bx.cell 4; have bxf := bx.free; have bxl := bx.lt; simp only [List.getElem?_cons_zero, List.getElem?_cons_succ] at bx0 bx1 bx2 bx3 bx4 bxl; have bo0 := bo.cell 0; have bo1 := bo.cell 1; have bo2 := bo.cell 2; have bo3 := bo.cell 3; have bo4 := bo.cell 4; have bo5 := bo.cell 5; have bof := bo.free; have bol := bo.lt; simp only [List.getElem?_cons_zero, List.getElem?_cons_succ] at bo0 bo1 bo2 bo3 bo4 bo5 bol))
  have BX := Lib.hid bx
  have BO := Lib.hid bo
  clear bx bo bx0 bx1 bx2 bx3 bx4 bxf bxl bo0 bo1 bo2 bo3 bo4 bo5 bof bol
  go_loopg [4, 15] 3 (fun gg ov iv wr => ∃ (k : Nat) (p : Option Addr) (n c : Nat), ov = .slice p n c ∧ iv = .int .i64 (k : Int) ∧ k ≤ 3 ∧ gg = 3 - k ∧ Hid (OwR wr w.heap.size 9 1 encS (.slice p n c) (opsK x k)) ∧ Hid (Blk w.heap.size (cdv x) 24 wr) ∧ Hid (Blk w2.heap.size (oprv (opr x.op)) 46 wr) ∧ Hid (Grew w wr))
  case atStart => exact ⟨0, none, 0, 0, rfl, rfl, by omega, rfl, Lib.hid (OwR.nil 1 encS _ _ _), BX, BO, HB⟩
  case round =>
    clear BX BO HB
    obtain ⟨k, p, n, c, rfl, rfl, hk, rfl, HO, BX, BO, HB⟩ := hrel
    rcases (show k = 0 ∨ k = 1 ∨ k = 2 ∨ k = 3 by omega) with rfl | rfl | rfl | rfl
    · have tk0 := Lib.hid trivial; have tk1 := Lib.hid trivial; have tk2 := Lib.hid trivial; have hix := index0 x.a x.b x.c; have hil := Lib.itoa_length_le (x.a) (by omega) (by omega)
      have bx := BX.out; have bx0 := bx.cell 0; have bx1 := bx.cell 1; have bx2 := bx.cell 2; have bx3 := bx.cell 3; have bx4 := bx.cell 4; have bxf := bx.free; have bxl := bx.lt; simp only [List.getElem?_cons_zero, List.getElem?_cons_succ] at bx0 bx1 bx2 bx3 bx4 bxl
      have bo := BO.out; have bo0 := bo.cell 0; have bo1 := bo.cell 1; have bo2 := bo.cell 2; have bo3 := bo.cell 3; have bo4 := bo.cell 4; have bo5 := bo.cell 5; have bof := bo.free; have bol := bo.lt; simp only [List.getElem?_cons_zero, List.getElem?_cons_succ] at bo0 bo1 bo2 bo3 bo4 bo5 bol
      clear BX BO
      go_wp2_with (first
        | (go_at_call 37; clear tk0; (with_reducible refine (registers_any x.op _).mono ?_); rintro e w6 ⟨rfl, g1⟩; clear bx0 bx1 bx2 bx3 bx4 bxf bxl; replace bx := bx.grew g1; clear bo0 bo1 bo2 bo3 bo4 bo5 bof bol; replace bo := bo.grew g1; replace HO := Lib.hid (HO.out.grew g1); replace HB := Lib.hid (HB.out.trans g1); clear g1; have bx0 := bx.cell 0; have bx1 := bx.cell 1; have bx2 := bx.cell 2; have bx3 := bx.cell 3; have bx4 := bx.cell 4; have bxf := bx.free; have bxl := bx.lt; simp only [List.getElem?_cons_zero, List.getElem?_cons_succ] at bx0 bx1 bx2 bx3 bx4 bxl; have bo0 := bo.cell 0; have bo1 := bo.cell 1; have bo2 := bo.cell 2; have bo3 := bo.cell 3; have bo4 := bo.cell 4; have bo5 := bo.cell 5; have bof := bo.free; have bol := bo.lt; simp only [List.getElem?_cons_zero, List.getElem?_cons_succ] at bo0 bo1 bo2 bo3 bo4 bo5 bol)
        | (go_at_call 38; clear tk1; (with_reducible refine (contains0 x.op _).mono ?_); rintro e w7 ⟨rfl, g1⟩; clear bx0 bx1 bx2 bx3 bx4 bxf bxl; replace bx := bx.grew g1; clear bo0 bo1 bo2 bo3 bo4 bo5 bof bol; replace bo := bo.grew g1; replace HO := Lib.hid (HO.out.grew g1); replace HB := Lib.hid (HB.out.trans g1); clear g1; have bx0 := bx.cell 0; have bx1 := bx.cell 1; have bx2 := bx.cell 2; have bx3 := bx.cell 3; have bx4 := bx.cell 4; have bxf := bx.free; have bxl := bx.lt; simp only [List.getElem?_cons_zero, List.getElem?_cons_succ] at bx0 bx1 bx2 bx3 bx4 bxl; have bo0 := bo.cell 0; have bo1 := bo.cell 1; have bo2 := bo.cell 2; have bo3 := bo.cell 3; have bo4 := bo.cell 4; have bo5 := bo.cell 5; have bof := bo.free; have bol := bo.lt; simp only [List.getElem?_cons_zero, List.getElem?_cons_succ] at bo0 bo1 bo2 bo3 bo4 bo5 bol)
        | (go_at_call 45; clear tk2; (with_reducible refine (itoa_any (x.a) (by omega) (by omega) _ (HE.out.grew HB.out)).mono ?_); rintro e w8 ⟨rfl, g1⟩; clear bx0 bx1 bx2 bx3 bx4 bxf bxl; replace bx := bx.grew g1; clear bo0 bo1 bo2 bo3 bo4 bo5 bof bol; replace bo := bo.grew g1; replace HO := Lib.hid (HO.out.grew g1); replace HB := Lib.hid (HB.out.trans g1); clear g1; have bx0 := bx.cell 0; have bx1 := bx.cell 1; have bx2 := bx.cell 2; have bx3 := bx.cell 3; have bx4 := bx.cell 4; have bxf := bx.free; have bxl := bx.lt; simp only [List.getElem?_cons_zero, List.getElem?_cons_succ] at bx0 bx1 bx2 bx3 bx4 bxl; have bo0 := bo.cell 0; have bo1 := bo.cell 1; have bo2 := bo.cell 2; have bo3 := bo.cell 3; have bo4 := bo.cell 4; have bo5 := bo.cell 5; have bof := bo.free; have bol := bo.lt; simp only [List.getElem?_cons_zero, List.getElem?_cons_succ] at bo0 bo1 bo2 bo3 bo4 bo5 bol)
        | (at_builtin; generalize hW : World.alloc _ _ = V; have hlit : Rw 1 encS V (some ⟨w8.heap.size, 0, none⟩) 1 [114 :: itoa (x.a)] := (by subst hW; exact Rw.made encSE _ [114 :: itoa (x.a)] 1 _ _ _ (by first | rfl | (simp [flatL, encS]; done) | simp [flatL, encS, (str_append [114] _)]) rfl (by omega)); clear bxf bxl bx0 bx1 bx2 bx3 bx4; replace bx : Blk (w.heap.size) [.int .i64 x.op, .int .i64 x.a, .int .i64 x.b, .int .i64 x.c, .int .i16 x.i] 24 V := (by subst hW; exact bx.grew ((Grew.refl _).alloc _)); clear bof bol bo0 bo1 bo2 bo3 bo4 bo5; replace bo : Blk (w2.heap.size) [.string ⟨(opr x.op).mn.toArray⟩, .int .u8 (opr x.op).wr, .int .u8 (opr x.op).rd, .int .i16 (opr x.op).lo, .int .i16 (opr x.op).hi, .bool (opr x.op).ev] 46 V := (by subst hW; exact bo.grew ((Grew.refl _).alloc _)); replace HO := Lib.hid (show OwR V _ _ _ _ _ _ from (by subst hW; exact HO.out.kept ((Grew.refl _).alloc _))); replace HB : Hid (Grew w V) := Lib.hid (by subst hW; exact HB.out.alloc _); clear hW; refine wpList_append_row encSE rfl _ _ 59 rfl w.heap.size 9 (.string ⟨#[]⟩) 16 Tryd.underlying59 infoS rfl _ (opsK x 0) rfl HO.out _ 1 1 [114 :: itoa (x.a)] rfl rfl hlit (by have := opsK_len x 0; simp; omega) (by have := opsK_len x 0; simp; omega) HB.out.sz ?_; intro p2 c2 zs2 w9 hz2 ho2 hb2 hc2; replace bx := bx.chg hc2 (fun hs => HO.out.apart (by decide) bx hs); replace bo := bo.chg hc2 (fun hs => HO.out.apart (by decide) bo hs); replace HB : Hid (Grew w w9) := Lib.hid (Below.trans HB.out hb2); have HO2 : Hid (OwR w9 w.heap.size 9 1 encS (.slice p2 zs2.length c2) (opsK x 1)) := Lib.hid (by rw [opsK_y0 x (by assumption), ← hz2.out]; exact ho2); clear ho2 hb2 hc2 hlit HO; have bx0 := bx.cell 0; have bx1 := bx.cell 1; have bx2 := bx.cell 2; have bx3 := bx.cell 3; have bx4 := bx.cell 4; have bxf := bx.free; have bxl := bx.lt; simp only [List.getElem?_cons_zero, List.getElem?_cons_succ] at bx0 bx1 bx2 bx3 bx4 bxl; have bo0 := bo.cell 0; have bo1 := bo.cell 1; have bo2 := bo.cell 2; have bo3 := bo.cell 3; have bo4 := bo.cell 4; have bo5 := bo.cell 5; have bof := bo.free; have bol := bo.lt; simp only [List.getElem?_cons_zero, List.getElem?_cons_succ] at bo0 bo1 bo2 bo3 bo4 bo5 bol))
      all_goals first
        | (go_roundg (3 - 1); (case measure => omega); (case rel => exact ⟨1, _, _, _, rfl, rfl, by omega, rfl, HO2, Lib.hid bx, Lib.hid bo, HB⟩))
        | (go_roundg (3 - 1); (case measure => omega); (case rel => exact ⟨1, _, _, _, rfl, rfl, by omega, rfl, Lib.hid (by rw [opsK_no x 0 (by assumption)]; exact HO.out), Lib.hid bx, Lib.hid bo, HB⟩))
    · have tk0 := Lib.hid trivial; have tk1 := Lib.hid trivial; have tk2 := Lib.hid trivial; have hix := index1 x.a x.b x.c; have hil := Lib.itoa_length_le (x.b) (by omega) (by omega)
      have bx := BX.out; have bx0 := bx.cell 0; have bx1 := bx.cell 1; have bx2 := bx.cell 2; have bx3 := bx.cell 3; have bx4 := bx.cell 4; have bxf := bx.free; have bxl := bx.lt; simp only [List.getElem?_cons_zero, List.getElem?_cons_succ] at bx0 bx1 bx2 bx3 bx4 bxl
      have bo := BO.out; have bo0 := bo.cell 0; have bo1 := bo.cell 1; have bo2 := bo.cell 2; have bo3 := bo.cell 3; have bo4 := bo.cell 4; have bo5 := bo.cell 5; have bof := bo.free; have bol := bo.lt; simp only [List.getElem?_cons_zero, List.getElem?_cons_succ] at bo0 bo1 bo2 bo3 bo4 bo5 bol
      clear BX BO
      go_wp2_with (first
        | (go_at_call 37; clear tk0; (with_reducible refine (registers_any x.op _).mono ?_); rintro e w6 ⟨rfl, g1⟩; clear bx0 bx1 bx2 bx3 bx4 bxf bxl; replace bx := bx.grew g1; clear bo0 bo1 bo2 bo3 bo4 bo5 bof bol; replace bo := bo.grew g1; replace HO := Lib.hid (HO.out.grew g1); replace HB := Lib.hid (HB.out.trans g1); clear g1; have bx0 := bx.cell 0; have bx1 := bx.cell 1; have bx2 := bx.cell 2; have bx3 := bx.cell 3; have bx4 := bx.cell 4; have bxf := bx.free; have bxl := bx.lt; simp only [List.getElem?_cons_zero, List.getElem?_cons_succ] at bx0 bx1 bx2 bx3 bx4 bxl; have bo0 := bo.cell 0; have bo1 := bo.cell 1; have bo2 := bo.cell 2; have bo3 := bo.cell 3; have bo4 := bo.cell 4; have bo5 := bo.cell 5; have bof := bo.free; have bol := bo.lt; simp only [List.getElem?_cons_zero, List.getElem?_cons_succ] at bo0 bo1 bo2 bo3 bo4 bo5 bol)
        | (go_at_call 38; clear tk1; (with_reducible refine (contains1 x.op _).mono ?_); rintro e w7 ⟨rfl, g1⟩; clear bx0 bx1 bx2 bx3 bx4 bxf bxl; replace bx := bx.grew g1; clear bo0 bo1 bo2 bo3 bo4 bo5 bof bol; replace bo := bo.grew g1; replace HO := Lib.hid (HO.out.grew g1); replace HB := Lib.hid (HB.out.trans g1); clear g1; have bx0 := bx.cell 0; have bx1 := bx.cell 1; have bx2 := bx.cell 2; have bx3 := bx.cell 3; have bx4 := bx.cell 4; have bxf := bx.free; have bxl := bx.lt; simp only [List.getElem?_cons_zero, List.getElem?_cons_succ] at bx0 bx1 bx2 bx3 bx4 bxl; have bo0 := bo.cell 0; have bo1 := bo.cell 1; have bo2 := bo.cell 2; have bo3 := bo.cell 3; have bo4 := bo.cell 4; have bo5 := bo.cell 5; have bof := bo.free; have bol := bo.lt; simp only [List.getElem?_cons_zero, List.getElem?_cons_succ] at bo0 bo1 bo2 bo3 bo4 bo5 bol)
        | (go_at_call 45; clear tk2; (with_reducible refine (itoa_any (x.b) (by omega) (by omega) _ (HE.out.grew HB.out)).mono ?_); rintro e w8 ⟨rfl, g1⟩; clear bx0 bx1 bx2 bx3 bx4 bxf bxl; replace bx := bx.grew g1; clear bo0 bo1 bo2 bo3 bo4 bo5 bof bol; replace bo := bo.grew g1; replace HO := Lib.hid (HO.out.grew g1); replace HB := Lib.hid (HB.out.trans g1); clear g1; have bx0 := bx.cell 0; have bx1 := bx.cell 1; have bx2 := bx.cell 2; have bx3 := bx.cell 3; have bx4 := bx.cell 4; have bxf := bx.free; have bxl := bx.lt; simp only [List.getElem?_cons_zero, List.getElem?_cons_succ] at bx0 bx1 bx2 bx3 bx4 bxl; have bo0 := bo.cell 0; have bo1 := bo.cell 1; have bo2 := bo.cell 2; have bo3 := bo.cell 3; have bo4 := bo.cell 4; have bo5 := bo.cell 5; have bof := bo.free; have bol := bo.lt; simp only [List.getElem?_cons_zero, List.getElem?_cons_succ] at bo0 bo1 bo2 bo3 bo4 bo5 bol)
        | (at_builtin; generalize hW : World.alloc _ _ = V; have hlit : Rw 1 encS V (some ⟨w8.heap.size, 0, none⟩) 1 [114 :: itoa (x.b)] := (by subst hW; exact Rw.made encSE _ [114 :: itoa (x.b)] 1 _ _ _ (by first | rfl | (simp [flatL, encS]; done) | simp [flatL, encS, (str_append [114] _)]) rfl (by omega)); clear bxf bxl bx0 bx1 bx2 bx3 bx4; replace bx : Blk (w.heap.size) [.int .i64 x.op, .int .i64 x.a, .int .i64 x.b, .int .i64 x.c, .int .i16 x.i] 24 V := (by subst hW; exact bx.grew ((Grew.refl _).alloc _)); clear bof bol bo0 bo1 bo2 bo3 bo4 bo5; replace bo : Blk (w2.heap.size) [.string ⟨(opr x.op).mn.toArray⟩, .int .u8 (opr x.op).wr, .int .u8 (opr x.op).rd, .int .i16 (opr x.op).lo, .int .i16 (opr x.op).hi, .bool (opr x.op).ev] 46 V := (by subst hW; exact bo.grew ((Grew.refl _).alloc _)); replace HO := Lib.hid (show OwR V _ _ _ _ _ _ from (by subst hW; exact HO.out.kept ((Grew.refl _).alloc _))); replace HB : Hid (Grew w V) := Lib.hid (by subst hW; exact HB.out.alloc _); clear hW; refine wpList_append_row encSE rfl _ _ 59 rfl w.heap.size 9 (.string ⟨#[]⟩) 16 Tryd.underlying59 infoS rfl _ (opsK x 1) rfl HO.out _ 1 1 [114 :: itoa (x.b)] rfl rfl hlit (by have := opsK_len x 1; simp; omega) (by have := opsK_len x 1; simp; omega) HB.out.sz ?_; intro p2 c2 zs2 w9 hz2 ho2 hb2 hc2; replace bx := bx.chg hc2 (fun hs => HO.out.apart (by decide) bx hs); replace bo := bo.chg hc2 (fun hs => HO.out.apart (by decide) bo hs); replace HB : Hid (Grew w w9) := Lib.hid (Below.trans HB.out hb2); have HO2 : Hid (OwR w9 w.heap.size 9 1 encS (.slice p2 zs2.length c2) (opsK x 2)) := Lib.hid (by rw [opsK_y1 x (by assumption), ← hz2.out]; exact ho2); clear ho2 hb2 hc2 hlit HO; have bx0 := bx.cell 0; have bx1 := bx.cell 1; have bx2 := bx.cell 2; have bx3 := bx.cell 3; have bx4 := bx.cell 4; have bxf := bx.free; have bxl := bx.lt; simp only [List.getElem?_cons_zero, List.getElem?_cons_succ] at bx0 bx1 bx2 bx3 bx4 bxl; have bo0 := bo.cell 0; have bo1 := bo.cell 1; have bo2 := bo.cell 2; have bo3 := bo.cell 3; have bo4 := bo.cell 4; have bo5 := bo.cell 5; have bof := bo.free; have bol := bo.lt; simp only [List.getElem?_cons_zero, List.getElem?_cons_succ] at bo0 bo1 bo2 bo3 bo4 bo5 bol))
      all_goals first
        | (go_roundg (3 - 2); (case measure => omega); (case rel => exact ⟨2, _, _, _, rfl, rfl, by omega, rfl, HO2, Lib.hid bx, Lib.hid bo, HB⟩))
        | (go_roundg (3 - 2); (case measure => omega); (case rel => exact ⟨2, _, _, _, rfl, rfl, by omega, rfl, Lib.hid (by rw [opsK_no x 1 (by assumption)]; exact HO.out), Lib.hid bx, Lib.hid bo, HB⟩))
    · have tk0 := Lib.hid trivial; have tk1 := Lib.hid trivial; have tk2 := Lib.hid trivial; have hix := index2 x.a x.b x.c; have hil := Lib.itoa_length_le (x.c) (by omega) (by omega)
      have bx := BX.out; have bx0 := bx.cell 0; have bx1 := bx.cell 1; have bx2 := bx.cell 2; have bx3 := bx.cell 3; have bx4 := bx.cell 4; have bxf := bx.free; have bxl := bx.lt; simp only [List.getElem?_cons_zero, List.getElem?_cons_succ] at bx0 bx1 bx2 bx3 bx4 bxl
      have bo := BO.out; have bo0 := bo.cell 0; have bo1 := bo.cell 1; have bo2 := bo.cell 2; have bo3 := bo.cell 3; have bo4 := bo.cell 4; have bo5 := bo.cell 5; have bof := bo.free; have bol := bo.lt; simp only [List.getElem?_cons_zero, List.getElem?_cons_succ] at bo0 bo1 bo2 bo3 bo4 bo5 bol
      clear BX BO
      go_wp2_with (first
        | (go_at_call 37; clear tk0; (with_reducible refine (registers_any x.op _).mono ?_); rintro e w6 ⟨rfl, g1⟩; clear bx0 bx1 bx2 bx3 bx4 bxf bxl; replace bx := bx.grew g1; clear bo0 bo1 bo2 bo3 bo4 bo5 bof bol; replace bo := bo.grew g1; replace HO := Lib.hid (HO.out.grew g1); replace HB := Lib.hid (HB.out.trans g1); clear g1; have bx0 := bx.cell 0; have bx1 := bx.cell 1; have bx2 := bx.cell 2; have bx3 := bx.cell 3; have bx4 := bx.cell 4; have bxf := bx.free; have bxl := bx.lt; simp only [List.getElem?_cons_zero, List.getElem?_cons_succ] at bx0 bx1 bx2 bx3 bx4 bxl; have bo0 := bo.cell 0; have bo1 := bo.cell 1; have bo2 := bo.cell 2; have bo3 := bo.cell 3; have bo4 := bo.cell 4; have bo5 := bo.cell 5; have bof := bo.free; have bol := bo.lt; simp only [List.getElem?_cons_zero, List.getElem?_cons_succ] at bo0 bo1 bo2 bo3 bo4 bo5 bol)
        | (go_at_call 38; clear tk1; (with_reducible refine (contains2 x.op _).mono ?_); rintro e w7 ⟨rfl, g1⟩; clear bx0 bx1 bx2 bx3 bx4 bxf bxl; replace bx := bx.grew g1; clear bo0 bo1 bo2 bo3 bo4 bo5 bof bol; replace bo := bo.grew g1; replace HO := Lib.hid (HO.out.grew g1); replace HB := Lib.hid (HB.out.trans g1); clear g1; have bx0 := bx.cell 0; have bx1 := bx.cell 1; have bx2 := bx.cell 2; have bx3 := bx.cell 3; have bx4 := bx.cell 4; have bxf := bx.free; have bxl := bx.lt; simp only [List.getElem?_cons_zero, List.getElem?_cons_succ] at bx0 bx1 bx2 bx3 bx4 bxl; have bo0 := bo.cell 0; have bo1 := bo.cell 1; have bo2 := bo.cell 2; have bo3 := bo.cell 3; have bo4 := bo.cell 4; have bo5 := bo.cell 5; have bof := bo.free; have bol := bo.lt; simp only [List.getElem?_cons_zero, List.getElem?_cons_succ] at bo0 bo1 bo2 bo3 bo4 bo5 bol)
        | (go_at_call 45; clear tk2; (with_reducible refine (itoa_any (x.c) (by omega) (by omega) _ (HE.out.grew HB.out)).mono ?_); rintro e w8 ⟨rfl, g1⟩; clear bx0 bx1 bx2 bx3 bx4 bxf bxl; replace bx := bx.grew g1; clear bo0 bo1 bo2 bo3 bo4 bo5 bof bol; replace bo := bo.grew g1; replace HO := Lib.hid (HO.out.grew g1); replace HB := Lib.hid (HB.out.trans g1); clear g1; have bx0 := bx.cell 0; have bx1 := bx.cell 1; have bx2 := bx.cell 2; have bx3 := bx.cell 3; have bx4 := bx.cell 4; have bxf := bx.free; have bxl := bx.lt; simp only [List.getElem?_cons_zero, List.getElem?_cons_succ] at bx0 bx1 bx2 bx3 bx4 bxl; have bo0 := bo.cell 0; have bo1 := bo.cell 1; have bo2 := bo.cell 2; have bo3 := bo.cell 3; have bo4 := bo.cell 4; have bo5 := bo.cell 5; have bof := bo.free; have bol := bo.lt; simp only [List.getElem?_cons_zero, List.getElem?_cons_succ] at bo0 bo1 bo2 bo3 bo4 bo5 bol)
        | (at_builtin; generalize hW : World.alloc _ _ = V; have hlit : Rw 1 encS V (some ⟨w8.heap.size, 0, none⟩) 1 [114 :: itoa (x.c)] := (by subst hW; exact Rw.made encSE _ [114 :: itoa (x.c)] 1 _ _ _ (by first | rfl | (simp [flatL, encS]; done) | simp [flatL, encS, (str_append [114] _)]) rfl (by omega)); clear bxf bxl bx0 bx1 bx2 bx3 bx4; replace bx : Blk (w.heap.size) [.int .i64 x.op, .int .i64 x.a, .int .i64 x.b, .int .i64 x.c, .int .i16 x.i] 24 V := (by subst hW; exact bx.grew ((Grew.refl _).alloc _)); clear bof bol bo0 bo1 bo2 bo3 bo4 bo5; replace bo : Blk (w2.heap.size) [.string ⟨(opr x.op).mn.toArray⟩, .int .u8 (opr x.op).wr, .int .u8 (opr x.op).rd, .int .i16 (opr x.op).lo, .int .i16 (opr x.op).hi, .bool (opr x.op).ev] 46 V := (by subst hW; exact bo.grew ((Grew.refl _).alloc _)); replace HO := Lib.hid (show OwR V _ _ _ _ _ _ from (by subst hW; exact HO.out.kept ((Grew.refl _).alloc _))); replace HB : Hid (Grew w V) := Lib.hid (by subst hW; exact HB.out.alloc _); clear hW; refine wpList_append_row encSE rfl _ _ 59 rfl w.heap.size 9 (.string ⟨#[]⟩) 16 Tryd.underlying59 infoS rfl _ (opsK x 2) rfl HO.out _ 1 1 [114 :: itoa (x.c)] rfl rfl hlit (by have := opsK_len x 2; simp; omega) (by have := opsK_len x 2; simp; omega) HB.out.sz ?_; intro p2 c2 zs2 w9 hz2 ho2 hb2 hc2; replace bx := bx.chg hc2 (fun hs => HO.out.apart (by decide) bx hs); replace bo := bo.chg hc2 (fun hs => HO.out.apart (by decide) bo hs); replace HB : Hid (Grew w w9) := Lib.hid (Below.trans HB.out hb2); have HO2 : Hid (OwR w9 w.heap.size 9 1 encS (.slice p2 zs2.length c2) (opsK x 3)) := Lib.hid (by rw [opsK_y2 x (by assumption), ← hz2.out]; exact ho2); clear ho2 hb2 hc2 hlit HO; have bx0 := bx.cell 0; have bx1 := bx.cell 1; have bx2 := bx.cell 2; have bx3 := bx.cell 3; have bx4 := bx.cell 4; have bxf := bx.free; have bxl := bx.lt; simp only [List.getElem?_cons_zero, List.getElem?_cons_succ] at bx0 bx1 bx2 bx3 bx4 bxl; have bo0 := bo.cell 0; have bo1 := bo.cell 1; have bo2 := bo.cell 2; have bo3 := bo.cell 3; have bo4 := bo.cell 4; have bo5 := bo.cell 5; have bof := bo.free; have bol := bo.lt; simp only [List.getElem?_cons_zero, List.getElem?_cons_succ] at bo0 bo1 bo2 bo3 bo4 bo5 bol))
      all_goals first
        | (go_roundg (3 - 3); (case measure => omega); (case rel => exact ⟨3, _, _, _, rfl, rfl, by omega, rfl, HO2, Lib.hid bx, Lib.hid bo, HB⟩))
        | (go_roundg (3 - 3); (case measure => omega); (case rel => exact ⟨3, _, _, _, rfl, rfl, by omega, rfl, Lib.hid (by rw [opsK_no x 2 (by assumption)]; exact HO.out), Lib.hid bx, Lib.hid bo, HB⟩))
    · obtain ⟨bI, HBI⟩ : ∃ b, Hid (hasI x.op = b) := ⟨_, Lib.hid rfl⟩
      have bx := BX.out; have bx0 := bx.cell 0; have bx1 := bx.cell 1; have bx2 := bx.cell 2; have bx3 := bx.cell 3; have bx4 := bx.cell 4; have bxf := bx.free; have bxl := bx.lt; simp only [List.getElem?_cons_zero, List.getElem?_cons_succ] at bx0 bx1 bx2 bx3 bx4 bxl
      have bo := BO.out; have bo0 := bo.cell 0; have bo1 := bo.cell 1; have bo2 := bo.cell 2; have bo3 := bo.cell 3; have bo4 := bo.cell 4; have bo5 := bo.cell 5; have bof := bo.free; have bol := bo.lt; simp only [List.getElem?_cons_zero, List.getElem?_cons_succ] at bo0 bo1 bo2 bo3 bo4 bo5 bol
      clear BX BO
      cases bI
      · have hn : n = (opsK x 3).length := (HO.out.rd encSE).1
        by_cases hz : opsK x 3 = []
        · have HNE := Lib.hid (show sh x.op = [] by have := ops_n x HBI.out; rw [hz] at this; exact List.map_eq_nil_iff.1 this.symm)
          obtain rfl : n = 0 := by rw [hn, hz]; rfl
          clear hn hz
          have tk0 := Lib.hid trivial
          go_wp2_with (first
            | (go_at_call 46; clear tk0; (with_reducible refine (hasImm_is x.op false HBI.out _).mono ?_); rintro e w6 ⟨rfl, g1⟩; clear bx0 bx1 bx2 bx3 bx4 bxf bxl; replace bx := bx.grew g1; clear bo0 bo1 bo2 bo3 bo4 bo5 bof bol; replace bo := bo.grew g1; replace HO := Lib.hid (HO.out.grew g1); replace HB := Lib.hid (HB.out.trans g1); clear g1; have bx0 := bx.cell 0; have bx1 := bx.cell 1; have bx2 := bx.cell 2; have bx3 := bx.cell 3; have bx4 := bx.cell 4; have bxf := bx.free; have bxl := bx.lt; simp only [List.getElem?_cons_zero, List.getElem?_cons_succ] at bx0 bx1 bx2 bx3 bx4 bxl; have bo0 := bo.cell 0; have bo1 := bo.cell 1; have bo2 := bo.cell 2; have bo3 := bo.cell 3; have bo4 := bo.cell 4; have bo5 := bo.cell 5; have bof := bo.free; have bol := bo.lt; simp only [List.getElem?_cons_zero, List.getElem?_cons_succ] at bo0 bo1 bo2 bo3 bo4 bo5 bol))
          go_ret
          exact ⟨ret_str (by unfold body; rw [if_pos HNE.out]; simp), HB.out⟩
        · have HNE := Lib.hid (show sh x.op ≠ [] by intro h; have := ops_n x HBI.out; rw [h] at this; exact hz this)
          have hn0 : ((n : Int) == 0) = false := by
            have : 0 < (opsK x 3).length := List.length_pos_iff.2 hz
            simp; omega
          replace HO : Hid (OwR wr w.heap.size 9 1 encS (.slice p n c) ((sh x.op).map (item x))) := Lib.hid (by rw [← ops_n x HBI.out]; exact HO.out)
          clear hn hz
          have tk0 := Lib.hid trivial
          go_wp2_with (first
            | (go_at_call 46; clear tk0; (with_reducible refine (hasImm_is x.op false HBI.out _).mono ?_); rintro e w6 ⟨rfl, g1⟩; clear bx0 bx1 bx2 bx3 bx4 bxf bxl; replace bx := bx.grew g1; clear bo0 bo1 bo2 bo3 bo4 bo5 bof bol; replace bo := bo.grew g1; replace HO := Lib.hid (HO.out.grew g1); replace HB := Lib.hid (HB.out.trans g1); clear g1; have bx0 := bx.cell 0; have bx1 := bx.cell 1; have bx2 := bx.cell 2; have bx3 := bx.cell 3; have bx4 := bx.cell 4; have bxf := bx.free; have bxl := bx.lt; simp only [List.getElem?_cons_zero, List.getElem?_cons_succ] at bx0 bx1 bx2 bx3 bx4 bxl; have bo0 := bo.cell 0; have bo1 := bo.cell 1; have bo2 := bo.cell 2; have bo3 := bo.cell 3; have bo4 := bo.cell 4; have bo5 := bo.cell 5; have bof := bo.free; have bol := bo.lt; simp only [List.getElem?_cons_zero, List.getElem?_cons_succ] at bo0 bo1 bo2 bo3 bo4 bo5 bol))
          have HL := Lib.hid (show (sh x.op).map (item x) ≠ [] from fun h => HNE.out (List.map_eq_nil_iff.1 h))
          have HJ := Lib.hid (items_len x (by omega) (by omega) (by omega) (by omega))
          have hj := HJ.out
          have hmn := mn_len x.op
          have HOD := HO.out.kept (Grew.refl _).drw
          have b0 : Atv ⟨w2.heap.size, 0, none⟩ (.string ⟨((opr x.op).mn).toArray⟩) (w6).drew := (bo.grew (Grew.refl _).drw).atv 0 rfl
          generalize w2.heap.size = S2 at b0 ⊢
          clear bx bx0 bx1 bx2 bx3 bx4 bxf bxl bo bo0 bo1 bo2 bo3 bo4 bo5 bof bol
          refine wp_posts [some 44, some 45, some 46, some 47, some 48, some 49, some 2] [false, false, true, false, false, false, false, false, false, false, false, false, false, false, false, false, false, false, false, false, false, false, false, false, false, false, false, false, false, false, false, false, false, false, false, false, false, false, false, false, false, false, false, false, true, true, true, true, true, true] [fun v _ => v = .pointer (some ⟨S2, 0, none⟩), fun v _ => v = .string ⟨((opr x.op).mn).toArray⟩, fun v _ => v = .string ⟨(((opr x.op).mn) ++ ([32])).toArray⟩, fun v _ => v = .slice p n c, fun v _ => v = .string ⟨(jn ((sh x.op).map (item x))).toArray⟩, fun v _ => v = .string ⟨((((opr x.op).mn) ++ ([32])) ++ (jn ((sh x.op).map (item x)))).toArray⟩, fun v _ => v = .string ⟨((((opr x.op).mn) ++ ([32])) ++ (jn ((sh x.op).map (item x)))).toArray⟩] (by kernel_rfl) (by kernel_rfl) rfl ?_ ⟨?_, ?_, ?_, ?_, ?_, ?_, ?_, trivial⟩ ?_
          · exact ⟨fun _ _ _ _ h => h, fun _ _ _ _ h => h, fun _ _ _ _ h => h, fun _ _ _ _ h => h, fun _ _ _ _ h => h, fun _ _ _ _ h => h, fun _ _ _ _ h => h, trivial⟩
          · intro u w hR hd; exact rn_fld_46_0 (ev rfl) ⟨Grew.refl _, rfl⟩
          · intro u w hR hd; exact rn_ld_9 (ev (hd.1 rfl)) (b0.kept hR) ⟨Grew.refl _, rfl⟩
          · intro u w hR hd; exact rn_cat_9 (ev (hd.1 rfl)) rfl (by first | omega | (simp <;> omega)) ⟨Grew.refl _, rfl⟩
          · intro u w hR hd; exact runs_mv (ev rfl) ⟨Grew.refl _, rfl⟩
          · intro u w hR hd; exact runs_c2 enters_join (ev (hd.1 rfl)) rfl (callp (fun _ e => e) (join_any _ p n c _ _ (HOD.kept hR) HL.out HJ.out))
          · intro u w hR hd; exact rn_cat_9 (ev (hd.1 rfl)) (ev (hd.2.1 rfl)) (by first | omega | (simp <;> omega)) ⟨Grew.refl _, rfl⟩
          · intro u w hR hd; exact runs_mva (ev (hd.1 rfl)) ⟨Grew.refl _, rfl⟩
          · intro u w4 hR h
            have he : u 2 = .string ⟨(((opr x.op).mn ++ [32]) ++ jn ((sh x.op).map (item x))).toArray⟩ := h 6 (by decide)
            simp only [mixA, mixL, cond_true, cond_false]
            rw [he]
            clear h he
            go_wp2
            go_ret
            exact ⟨ret_str (by unfold body; rw [if_neg HNE.out]; simp), HB.out.trans ((Grew.refl _).drw.trans hR)⟩

      · have HNE := Lib.hid (sh_i x.op HBI.out)
        have tk0 := Lib.hid trivial
        have tk1 := Lib.hid trivial
        have hil := Lib.itoa_length_le x.i (by omega) (by omega)
        go_wp2_with (first
          | (go_at_call 46; clear tk0; (with_reducible refine (hasImm_is x.op true HBI.out _).mono ?_); rintro e w6 ⟨rfl, g1⟩; clear bx0 bx1 bx2 bx3 bx4 bxf bxl; replace bx := bx.grew g1; clear bo0 bo1 bo2 bo3 bo4 bo5 bof bol; replace bo := bo.grew g1; replace HO := Lib.hid (HO.out.grew g1); replace HB := Lib.hid (HB.out.trans g1); clear g1; have bx0 := bx.cell 0; have bx1 := bx.cell 1; have bx2 := bx.cell 2; have bx3 := bx.cell 3; have bx4 := bx.cell 4; have bxf := bx.free; have bxl := bx.lt; simp only [List.getElem?_cons_zero, List.getElem?_cons_succ] at bx0 bx1 bx2 bx3 bx4 bxl; have bo0 := bo.cell 0; have bo1 := bo.cell 1; have bo2 := bo.cell 2; have bo3 := bo.cell 3; have bo4 := bo.cell 4; have bo5 := bo.cell 5; have bof := bo.free; have bol := bo.lt; simp only [List.getElem?_cons_zero, List.getElem?_cons_succ] at bo0 bo1 bo2 bo3 bo4 bo5 bol)
          | (go_at_call 45; clear tk1; (with_reducible refine (itoa_any (x.i) (by omega) (by omega) _ (HE.out.grew HB.out)).mono ?_); rintro e w7 ⟨rfl, g1⟩; clear bx0 bx1 bx2 bx3 bx4 bxf bxl; replace bx := bx.grew g1; clear bo0 bo1 bo2 bo3 bo4 bo5 bof bol; replace bo := bo.grew g1; replace HO := Lib.hid (HO.out.grew g1); replace HB := Lib.hid (HB.out.trans g1); clear g1; have bx0 := bx.cell 0; have bx1 := bx.cell 1; have bx2 := bx.cell 2; have bx3 := bx.cell 3; have bx4 := bx.cell 4; have bxf := bx.free; have bxl := bx.lt; simp only [List.getElem?_cons_zero, List.getElem?_cons_succ] at bx0 bx1 bx2 bx3 bx4 bxl; have bo0 := bo.cell 0; have bo1 := bo.cell 1; have bo2 := bo.cell 2; have bo3 := bo.cell 3; have bo4 := bo.cell 4; have bo5 := bo.cell 5; have bof := bo.free; have bol := bo.lt; simp only [List.getElem?_cons_zero, List.getElem?_cons_succ] at bo0 bo1 bo2 bo3 bo4 bo5 bol)
          | (at_builtin; generalize hW : World.alloc _ _ = V; have hlit : Rw 1 encS V (some ⟨w7.heap.size, 0, none⟩) 1 [itoa x.i] := (by subst hW; exact Rw.made encSE _ [itoa x.i] 1 _ _ _ (by first | rfl | (simp [flatL, encS]; done) | simp [flatL, encS, (str_append [] _)]) rfl (by omega)); clear bxf bxl bx0 bx1 bx2 bx3 bx4; replace bx : Blk (w.heap.size) [.int .i64 x.op, .int .i64 x.a, .int .i64 x.b, .int .i64 x.c, .int .i16 x.i] 24 V := (by subst hW; exact bx.grew ((Grew.refl _).alloc _)); clear bof bol bo0 bo1 bo2 bo3 bo4 bo5; replace bo : Blk (w2.heap.size) [.string ⟨(opr x.op).mn.toArray⟩, .int .u8 (opr x.op).wr, .int .u8 (opr x.op).rd, .int .i16 (opr x.op).lo, .int .i16 (opr x.op).hi, .bool (opr x.op).ev] 46 V := (by subst hW; exact bo.grew ((Grew.refl _).alloc _)); replace HO := Lib.hid (show OwR V _ _ _ _ _ _ from (by subst hW; exact HO.out.kept ((Grew.refl _).alloc _))); replace HB : Hid (Grew w V) := Lib.hid (by subst hW; exact HB.out.alloc _); clear hW; refine wpList_append_row encSE rfl _ _ 59 rfl w.heap.size 9 (.string ⟨#[]⟩) 16 Tryd.underlying59 infoS rfl _ (opsK x 3) rfl HO.out _ 1 1 [itoa x.i] rfl rfl hlit (by have := opsK_len x 3; simp; omega) (by have := opsK_len x 3; simp; omega) HB.out.sz ?_; intro p2 c2 zs2 w9 hz2 ho2 hb2 hc2; replace bx := bx.chg hc2 (fun hs => HO.out.apart (by decide) bx hs); replace bo := bo.chg hc2 (fun hs => HO.out.apart (by decide) bo hs); replace HB : Hid (Grew w w9) := Lib.hid (Below.trans HB.out hb2); have HO2 : Hid (OwR w9 w.heap.size 9 1 encS (.slice p2 zs2.length c2) ((sh x.op).map (item x))) := Lib.hid (by rw [← ops_i x HBI.out, ← hz2.out]; exact ho2); have hn0 : ((zs2.length : Int) == 0) = false := (by rw [hz2.out]; simp; omega); clear ho2 hb2 hc2 hlit HO; have bx0 := bx.cell 0; have bx1 := bx.cell 1; have bx2 := bx.cell 2; have bx3 := bx.cell 3; have bx4 := bx.cell 4; have bxf := bx.free; have bxl := bx.lt; simp only [List.getElem?_cons_zero, List.getElem?_cons_succ] at bx0 bx1 bx2 bx3 bx4 bxl; have bo0 := bo.cell 0; have bo1 := bo.cell 1; have bo2 := bo.cell 2; have bo3 := bo.cell 3; have bo4 := bo.cell 4; have bo5 := bo.cell 5; have bof := bo.free; have bol := bo.lt; simp only [List.getElem?_cons_zero, List.getElem?_cons_succ] at bo0 bo1 bo2 bo3 bo4 bo5 bol))
        have HL := Lib.hid (show (sh x.op).map (item x) ≠ [] from fun h => HNE.out (List.map_eq_nil_iff.1 h))
        have HJ := Lib.hid (items_len x (by omega) (by omega) (by omega) (by omega))
        have hj := HJ.out
        have hmn := mn_len x.op
        have HOD := HO2.out.kept (Grew.refl _).drw
        have b0 : Atv ⟨w2.heap.size, 0, none⟩ (.string ⟨((opr x.op).mn).toArray⟩) (w9).drew := (bo.grew (Grew.refl _).drw).atv 0 rfl
        generalize w2.heap.size = S2 at b0 ⊢
        clear bx bx0 bx1 bx2 bx3 bx4 bxf bxl bo bo0 bo1 bo2 bo3 bo4 bo5 bof bol
        refine wp_posts [some 44, some 45, some 46, some 47, some 48, some 49, some 2] [false, false, true, false, false, false, false, false, false, false, false, false, false, false, false, false, false, false, false, false, false, false, false, false, false, false, false, false, false, false, false, false, false, false, false, false, false, false, false, false, false, false, false, false, true, true, true, true, true, true] [fun v _ => v = .pointer (some ⟨S2, 0, none⟩), fun v _ => v = .string ⟨((opr x.op).mn).toArray⟩, fun v _ => v = .string ⟨(((opr x.op).mn) ++ ([32])).toArray⟩, fun v _ => v = .slice p2 zs2.length c2, fun v _ => v = .string ⟨(jn ((sh x.op).map (item x))).toArray⟩, fun v _ => v = .string ⟨((((opr x.op).mn) ++ ([32])) ++ (jn ((sh x.op).map (item x)))).toArray⟩, fun v _ => v = .string ⟨((((opr x.op).mn) ++ ([32])) ++ (jn ((sh x.op).map (item x)))).toArray⟩] (by kernel_rfl) (by kernel_rfl) rfl ?_ ⟨?_, ?_, ?_, ?_, ?_, ?_, ?_, trivial⟩ ?_
        · exact ⟨fun _ _ _ _ h => h, fun _ _ _ _ h => h, fun _ _ _ _ h => h, fun _ _ _ _ h => h, fun _ _ _ _ h => h, fun _ _ _ _ h => h, fun _ _ _ _ h => h, trivial⟩
        · intro u w hR hd; exact rn_fld_46_0 (ev rfl) ⟨Grew.refl _, rfl⟩
        · intro u w hR hd; exact rn_ld_9 (ev (hd.1 rfl)) (b0.kept hR) ⟨Grew.refl _, rfl⟩
        · intro u w hR hd; exact rn_cat_9 (ev (hd.1 rfl)) rfl (by first | omega | (simp <;> omega)) ⟨Grew.refl _, rfl⟩
        · intro u w hR hd; exact runs_mv (ev rfl) ⟨Grew.refl _, rfl⟩
        · intro u w hR hd; exact runs_c2 enters_join (ev (hd.1 rfl)) rfl (callp (fun _ e => e) (join_any _ p2 zs2.length c2 _ _ (HOD.kept hR) HL.out HJ.out))
        · intro u w hR hd; exact rn_cat_9 (ev (hd.1 rfl)) (ev (hd.2.1 rfl)) (by first | omega | (simp <;> omega)) ⟨Grew.refl _, rfl⟩
        · intro u w hR hd; exact runs_mva (ev (hd.1 rfl)) ⟨Grew.refl _, rfl⟩
        · intro u w4 hR h
          have he : u 2 = .string ⟨(((opr x.op).mn ++ [32]) ++ jn ((sh x.op).map (item x))).toArray⟩ := h 6 (by decide)
          simp only [mixA, mixL, cond_true, cond_false]
          rw [he]
          clear h he
          go_wp2
          go_ret
          exact ⟨ret_str (by unfold body; rw [if_neg HNE.out]; simp), HB.out.trans ((Grew.refl _).drw.trans hR)⟩
end Go.Proofs.YtddffijipphfeaaDoor
