/-
  CONTRACTS OF LAYER 14 (diag): two diagnostics compared, by the program and by the reference.
-/
import Derived.Test.YtmnncildkomagaaDoorDiMap
import Derived.Sort.Walk0
import Derived.Sort.Grow
namespace Go.Proofs.YtmnncildkomagaaDoor
open Go Go.RowKit Go.IntWalk Go.Sort
set_option linter.unusedSimpArgs false
set_option linter.unusedVariables false
set_option maxRecDepth 8000

theorem str_list (l : List UInt8) : (ByteArray.mk l.toArray).toList = l := by rw [Lib.toList_data]
theorem nans (s : ByteArray) (w : World) : Calls Tryd.prog 67 #[.string s] w fun e w' => e = .returned (.bool false) ∧ w = w' := by
  go_enter Tryd.func67, Tryd.ntmps67
  go_wp2
  go_ret
  exact ⟨ret_bool (by simp), rfl⟩
theorem nani (x : Int) (w : World) : Calls Tryd.prog 66 #[.int .i64 x] w fun e w' => e = .returned (.bool false) ∧ w = w' := by
  go_enter Tryd.func66, Tryd.ntmps66
  go_wp2
  go_ret
  exact ⟨rfl, rfl⟩
/-- -1, 0 or 1. -/
def cmpI (a b : Int) : Int := if a < b then -1 else if b < a then 1 else 0
def cmpS (a b : List UInt8) : Int := if a < b then -1 else if b < a then 1 else 0
theorem cmpint (x y : Int) (w : World) : Calls Tryd.prog 54 #[.int .i64 x, .int .i64 y] w fun e w' => e = .returned (.int .i64 (cmpI x y)) ∧ w = w' := by
  rcases Int.lt_trichotomy x y with h | h | h
  · have Hd := Lib.hid (show cmpI x y = -1 by simp [cmpI, h])
    go_enter Tryd.func54, Tryd.ntmps54
    go_wp2_with ((with_reducible refine (nani _ _).mono ?_); rintro e w' ⟨rfl, rfl⟩)
    go_ret
    exact ⟨ret_i64 Hd.out.symm, rfl⟩
  · subst h
    have Hd := Lib.hid (show cmpI x x = 0 by simp [cmpI])
    go_enter Tryd.func54, Tryd.ntmps54
    go_wp2_with ((with_reducible refine (nani _ _).mono ?_); rintro e w' ⟨rfl, rfl⟩)
    go_ret
    exact ⟨ret_i64 Hd.out.symm, rfl⟩
  · have h' : ¬ x < y := by omega
    have Hd := Lib.hid (show cmpI x y = 1 by simp [cmpI, h, h'])
    go_enter Tryd.func54, Tryd.ntmps54
    go_wp2_with ((with_reducible refine (nani _ _).mono ?_); rintro e w' ⟨rfl, rfl⟩)
    go_ret
    exact ⟨ret_i64 Hd.out.symm, rfl⟩
theorem less_yes {x y : List UInt8} (h : x < y) : Op.bytesLess x y = true := by rw [bytesLess_eq]; exact decide_eq_true h
theorem less_no {x y : List UInt8} (h : ¬ x < y) : Op.bytesLess x y = false := by rw [bytesLess_eq]; exact decide_eq_false h
theorem cmpstr (x y : List UInt8) (w : World) : Calls Tryd.prog 55 #[.string ⟨x.toArray⟩, .string ⟨y.toArray⟩] w fun e w' => e = .returned (.int .i64 (cmpS x y)) ∧ w = w' := by
  have hx := str_list x
  have hy := str_list y
  rcases bytes_tri x y with h | h | h
  · have Hd := Lib.hid (show cmpS x y = -1 by simp [cmpS, h])
    have h1 := less_yes h
    clear h
    go_enter Tryd.func55, Tryd.ntmps55
    go_wp2_with ((with_reducible refine (nans _ _).mono ?_); rintro e w' ⟨rfl, rfl⟩)
    go_ret
    exact ⟨ret_i64 Hd.out.symm, rfl⟩
  · subst h
    have Hd := Lib.hid (show cmpS x x = 0 by simp [cmpS, bytes_irr])
    have h1 := less_no (bytes_irr x)
    go_enter Tryd.func55, Tryd.ntmps55
    go_wp2_with ((with_reducible refine (nans _ _).mono ?_); rintro e w' ⟨rfl, rfl⟩)
    go_ret
    exact ⟨ret_i64 Hd.out.symm, rfl⟩
  · have h' : ¬ x < y := fun h2 => bytes_irr _ (bytes_tra h h2)
    have hne : (x == y) = false := by
      rw [Bool.eq_false_iff]
      intro e
      rw [eq_of_beq e] at h
      exact bytes_irr _ h
    have Hd := Lib.hid (show cmpS x y = 1 by simp [cmpS, h, h'])
    have h1 := less_no h'
    have h2 := less_yes h
    clear h h'
    go_enter Tryd.func55, Tryd.ntmps55
    go_wp2_with ((with_reducible refine (nans _ _).mono ?_); rintro e w' ⟨rfl, rfl⟩)
    go_ret
    exact ⟨ret_i64 Hd.out.symm, rfl⟩
/-- The first that is not 0. -/
def orI (a b : Int) : Int := if a = 0 then b else a
theorem or_any (x y : Int) (b : Nat) (w : World) (h0 : w.cell? ⟨b, 0, none⟩ = some (.int .i64 x)) (h1 : w.cell? ⟨b, 1, none⟩ = some (.int .i64 y)) :
    Calls Tryd.prog 53 #[.slice (some ⟨b, 0, none⟩) 2 2] w fun e w' => e = .returned (.int .i64 (orI x y)) ∧ w = w' := by
  by_cases hx : x = 0
  · subst hx
    by_cases hy : y = 0
    · subst hy
      have Hd := Lib.hid (show orI 0 0 = 0 by simp [orI])
      go_enter Tryd.func53, Tryd.ntmps53
      go_wp2
      refine wp_loop_rounds 3 ?_; rw [rounds_succ]
      go_wp2
      rw [rounds_succ]
      go_wp2
      rw [rounds_succ]
      go_wp2
      go_ret
      exact ⟨ret_i64 Hd.out.symm, rfl⟩
    · have hy' : (y == 0) = false := by simpa using hy
      have hy2 : (y != 0) = true := by simpa using hy
      have Hd := Lib.hid (show orI 0 y = y by simp [orI])
      clear hy
      go_enter Tryd.func53, Tryd.ntmps53
      go_wp2
      refine wp_loop_rounds 3 ?_; rw [rounds_succ]
      go_wp2
      rw [rounds_succ]
      go_wp2
      go_ret
      exact ⟨ret_i64 Hd.out.symm, rfl⟩
  · have hx' : (x == 0) = false := by simpa using hx
    have hx2 : (x != 0) = true := by simpa using hx
    have Hd := Lib.hid (show orI x y = x by simp [orI, hx])
    clear hx
    go_enter Tryd.func53, Tryd.ntmps53
    go_wp2
    refine wp_loop_rounds 3 ?_; rw [rounds_succ]
    go_wp2
    go_ret
    exact ⟨ret_i64 Hd.out.symm, rfl⟩
/-- The order as compare tells it. -/
def cf (a b : It) : Int := orI (cmpI a.1 b.1) (cmpS a.2 b.2)
theorem cf_neg (a b : It) : decide (cf a b < 0) = bef a b := by
  rw [Bool.eq_iff_iff, bef_iff, decide_eq_true_eq]
  unfold cf orI cmpI
  rcases Int.lt_trichotomy a.1 b.1 with h | h | h
  · rw [if_pos h]
    simp [h]
  · rw [h]
    simp only [Int.lt_irrefl, if_false, if_true, true_and, false_or]
    unfold cmpS
    rcases bytes_tri a.2 b.2 with g | g | g
    · rw [if_pos g]
      simp [g]
    · rw [g]
      simp [bytes_irr]
    · have g' : ¬ a.2 < b.2 := fun h2 => bytes_irr _ (bytes_tra g h2)
      rw [if_neg g', if_pos g]
      simp [g']
  · have h1 : ¬ a.1 < b.1 := by omega
    have h2 : ¬ a.1 = b.1 := by omega
    rw [if_neg h1, if_pos h]
    simp [h1, h2]
/-- Draws and new blocks. -/
def Gq (w w' : World) : Prop := ∃ q os, w' = grow (w.drewN q) os
theorem Gq.refl (w : World) : Gq w w := ⟨0, #[], by rw [grow_empty]; rfl⟩
theorem Gq.alloc (w : World) (o : Obj) : Gq w (w.alloc o) := ⟨0, #[o], alloc_eq_grow w o⟩
theorem Gq.drew (w : World) : Gq w w.drew := ⟨1, #[], by rw [grow_empty]; rfl⟩
theorem Gq.trans {a b c : World} (h : Gq a b) (h' : Gq b c) : Gq a c := by
  obtain ⟨q, os, rfl⟩ := h
  obtain ⟨q', os', rfl⟩ := h'
  refine ⟨q + q', os ++ os', ?_⟩
  simp only [grow, World.drewN, Array.append_assoc, Nat.add_assoc]
theorem Gq.grew {w w' : World} (h : Gq w w') : Grew w w' := by
  obtain ⟨q, os, rfl⟩ := h
  exact grew_grow w q os
instance : Keeps Gq := ⟨Gq.grew⟩
section
variable {P : Program} {id : Nat} {ops : Array Oper} {Q : Exit → Act → World → Prop} {a0 : Act} {w0 : World}
theorem wp_gq (sl : List (Option Nat)) (D : List Bool) (ps : List (Value → World → Prop)) (hm : P.follows .mixedOrders = true) (hok : regionOk ops sl D = true) (hD : D.length = a0.tmps.size) (hps : Monos ps)
    (hs : Steps P Gq (postAt ps) sl (mixA D a0) w0.drew 0 ops.toList) (hend : ∀ u w, Gq w0.drew w → (∀ i, i < ops.size → postAt ps i (uval sl u i) w) → Q .normal (mixA D a0 u) w) : (Code.region id ops true).wp P Q a0 w0 :=
  wp_region_posts sl D Gq (postAt ps) hm hok hD Gq.refl Gq.trans (fun i v w w' hg h => hps.at i v w w' hg.grew h) hs hend
end
/-- A slice of two numbers. -/
def Two (x y : Int) (v : Value) (w : World) : Prop := ∃ B, v = .slice (some ⟨B, 0, none⟩) 2 2 ∧ Blk B [.int .i64 x, .int .i64 y] 3 w
theorem Two.grew {x y : Int} {v : Value} {w w' : World} (h : Two x y v w) (hg : Grew w w') : Two x y v w' := by
  obtain ⟨B, h1, h2⟩ := h
  exact ⟨B, h1, h2.grew hg⟩
theorem Two.made (x y : Int) (w : World) : Two x y (.slice (some ⟨w.heap.size, 0, none⟩) 2 2) (w.alloc (.cells #[.int .i64 x, .int .i64 y] 3)) := ⟨_, rfl, Blk.new w [.int .i64 x, .int .i64 y] _⟩
section
variable {dst : Option Tmp} {ty : TypeId} {pos : String} {after : Array Edge} {g : Option (Nat × Bool)} {a : Act} {w : World} {T : Value → World → Prop}
theorem rn_fld_37_0 {x : Operand} {S o : Nat} (hx : a.eval x = .pointer (some ⟨S, o, none⟩)) (h : T (.pointer (some ⟨S, o, none⟩)) w) : Runs Tryd.prog ⟨dst, .fieldAddr 37 x 0, ty, pos, after, g⟩ a w T := by
  refine Runs.value (v := .pointer (some ⟨S, o, none⟩)) (w' := w) ?_ h
  simp only [execOp, hx]
  go_simp
theorem rn_ld_3 {x : Operand} {q : Addr} {v : Value} (hx : a.eval x = .pointer (some q)) (hc : w.cell? q = some v) (h : T v w) : Runs Tryd.prog ⟨dst, .load 3 x, ty, pos, after, g⟩ a w T := by
  refine Runs.value (v := v) (w' := w) ?_ h
  simp only [execOp, hx]
  go_simp
end

section
variable {dst : Option Tmp} {ty : TypeId} {pos : String} {after : Array Edge} {g : Option (Nat × Bool)} {a : Act} {w : World} {T : Value → World → Prop}
theorem runs_bs2 {x y : Nat} {b c : Int} (hx : a.eval (.tmp x) = .int .i64 b) (hy : a.eval (.tmp y) = .int .i64 c) (h : T (.slice (some ⟨w.heap.size, 0, none⟩) 2 2) (w.alloc (.cells #[.int .i64 b, .int .i64 c] 3))) :
    Runs Tryd.prog ⟨dst, .buildSlice 55 2 #[(0, .tmp x), (1, .tmp y)], ty, pos, after, g⟩ a w T := by
  rw [slot_eval, ← slot_get] at hx hy
  refine Runs.value (v := .slice (some ⟨w.heap.size, 0, none⟩) 2 2) (w' := w.alloc (.cells #[.int .i64 b, .int .i64 c] 3)) ?_ h
  simp only [execOp]
  go_simp
theorem enters_ci : Enters Tryd.prog 54 := fun args w => by go_simp
theorem enters_cs : Enters Tryd.prog 55 := fun args w => by go_simp
theorem enters_or : Enters Tryd.prog 53 := fun args w => by go_simp
theorem enters_compare : Enters Tryd.prog 36 := fun args w => by go_simp
theorem runs_orcall {x : Nat} {ts : Array TypeId} {b c : Int} (hx : Two b c (slot a x) w) (h : T (.int .i64 (orI b c)) w) : Runs Tryd.prog ⟨dst, .call { callee := .value (.func 53), args := #[.tmp x], argTypes := ts }, ty, pos, after, g⟩ a w T := by
  obtain ⟨B, h1, h2⟩ := hx
  exact runs_c1 enters_or (ev h1) ((or_any b c B w (h2.cell 0) (h2.cell 1)).mono fun e w' he => ⟨_, he.1, he.2 ▸ h⟩)
end
theorem cmpint_gq (x y : Int) (w : World) : Calls Tryd.prog 54 #[.int .i64 x, .int .i64 y] w fun e w' => e = .returned (.int .i64 (cmpI x y)) ∧ Gq w w' := (cmpint x y w).mono fun _ _ h => ⟨h.1, h.2 ▸ Gq.refl _⟩
theorem cmpstr_gq (x y : List UInt8) (w : World) : Calls Tryd.prog 55 #[.string ⟨x.toArray⟩, .string ⟨y.toArray⟩] w fun e w' => e = .returned (.int .i64 (cmpS x y)) ∧ Gq w w' := (cmpstr x y w).mono fun _ _ h => ⟨h.1, h.2 ▸ Gq.refl _⟩
set_option maxHeartbeats 1000000 in
theorem compare_any (x y : It) (w : World) : Calls Tryd.prog 36 #[itv x, itv y] w fun e w' => e = .returned (.int .i64 (cf x y)) ∧ Gq w w' := by
  go_enter Tryd.func36, Tryd.ntmps36
  go_wp2
  have hG : Gq w ((w.alloc (.cells #[.int .i64 x.1, .string ⟨x.2.toArray⟩] 37)).alloc (.cells #[.int .i64 y.1, .string ⟨y.2.toArray⟩] 37)) := (Gq.alloc _ _).trans (Gq.alloc _ _)
  have hA : Blk w.heap.size (itc x) 37 ((w.alloc (.cells #[.int .i64 x.1, .string ⟨x.2.toArray⟩] 37)).alloc (.cells #[.int .i64 y.1, .string ⟨y.2.toArray⟩] 37)) := (Blk.new w (itc x) _).grew ((Grew.refl _).alloc _)
  have hB : Blk (w.heap.size + 1) (itc y) 37 ((w.alloc (.cells #[.int .i64 x.1, .string ⟨x.2.toArray⟩] 37)).alloc (.cells #[.int .i64 y.1, .string ⟨y.2.toArray⟩] 37)) := by
    have := Blk.new (w.alloc (.cells #[.int .i64 x.1, .string ⟨x.2.toArray⟩] 37)) (itc y) 37
    simpa using this
  generalize World.alloc _ _ = W at hG hA hB ⊢
  generalize w.heap.size = S at hA hB ⊢
  generalize S + 1 = R at hB ⊢
  replace hG := hG.trans (Gq.drew W)
  have a0 : Atv ⟨S, 0, none⟩ (.int .i64 x.1) W.drew := (hA.grew (Gq.drew W).grew).atv 0 rfl
  have a1 : Atv ⟨S, 1, none⟩ (.string ⟨x.2.toArray⟩) W.drew := (hA.grew (Gq.drew W).grew).atv 1 rfl
  have b0 : Atv ⟨R, 0, none⟩ (.int .i64 y.1) W.drew := (hB.grew (Gq.drew W).grew).atv 0 rfl
  have b1 : Atv ⟨R, 1, none⟩ (.string ⟨y.2.toArray⟩) W.drew := (hB.grew (Gq.drew W).grew).atv 1 rfl
  refine wp_gq [some 5, some 6, some 7, some 8, some 9, some 10, some 11, some 12, some 13, some 14, some 15, some 16, some 4] [false, false, false, false, true, true, true, true, true, true, true, true, true, true, true, true, true] [fun v _ => v = .pointer (some ⟨S, 0, none⟩), fun v _ => v = .int .i64 (x.1), fun v _ => v = .pointer (some ⟨R, 0, none⟩), fun v _ => v = .int .i64 (y.1), fun v _ => v = .int .i64 (cmpI x.1 y.1), fun v _ => v = .pointer (some ⟨S, 1, none⟩), fun v _ => v = .string ⟨(x.2).toArray⟩, fun v _ => v = .pointer (some ⟨R, 1, none⟩), fun v _ => v = .string ⟨(y.2).toArray⟩, fun v _ => v = .int .i64 (cmpS x.2 y.2), fun v w => Two (cmpI x.1 y.1) (cmpS x.2 y.2) v w, fun v _ => v = .int .i64 (orI (cmpI x.1 y.1) (cmpS x.2 y.2)), fun v _ => v = .int .i64 (orI (cmpI x.1 y.1) (cmpS x.2 y.2))] (by kernel_rfl) (by kernel_rfl) rfl ?_ ⟨?_, ?_, ?_, ?_, ?_, ?_, ?_, ?_, ?_, ?_, ?_, ?_, ?_, trivial⟩ ?_
  · exact ⟨fun _ _ _ _ h => h, fun _ _ _ _ h => h, fun _ _ _ _ h => h, fun _ _ _ _ h => h, fun _ _ _ _ h => h, fun _ _ _ _ h => h, fun _ _ _ _ h => h, fun _ _ _ _ h => h, fun _ _ _ _ h => h, fun _ _ _ _ h => h, fun v w w1 hg h => h.grew hg, fun _ _ _ _ h => h, fun _ _ _ _ h => h, trivial⟩
  · intro u w hR hd; exact rn_fld_37_0 (ev rfl) ⟨Gq.refl _, rfl⟩
  · intro u w hR hd; exact rn_ld_3 (ev (hd.1 rfl)) (a0.kept hR) ⟨Gq.refl _, rfl⟩
  · intro u w hR hd; exact rn_fld_37_0 (ev rfl) ⟨Gq.refl _, rfl⟩
  · intro u w hR hd; exact rn_ld_3 (ev (hd.1 rfl)) (b0.kept hR) ⟨Gq.refl _, rfl⟩
  · intro u w hR hd; exact runs_c2 enters_ci (ev (hd.1 rfl)) (ev (hd.2.1 rfl)) (callp (fun _ e => e) (cmpint_gq _ _ _))
  · intro u w hR hd; exact rn_fld_37_1 (ev rfl) ⟨Gq.refl _, rfl⟩
  · intro u w hR hd; exact rn_ld_9 (ev (hd.1 rfl)) (a1.kept hR) ⟨Gq.refl _, rfl⟩
  · intro u w hR hd; exact rn_fld_37_1 (ev rfl) ⟨Gq.refl _, rfl⟩
  · intro u w hR hd; exact rn_ld_9 (ev (hd.1 rfl)) (b1.kept hR) ⟨Gq.refl _, rfl⟩
  · intro u w hR hd; exact runs_c2 enters_cs (ev (hd.1 rfl)) (ev (hd.2.1 rfl)) (callp (fun _ e => e) (cmpstr_gq _ _ _))
  · intro u w hR hd; exact runs_bs2 (ev (hd.1 rfl)) (ev (hd.2.1 rfl)) ⟨Gq.alloc _ _, Two.made _ _ _⟩
  · intro u w hR hd; exact runs_orcall (hd.1 rfl) ⟨Gq.refl _, rfl⟩
  · intro u w hR hd; exact runs_mva (ev (hd.1 rfl)) ⟨Gq.refl _, rfl⟩
  · intro uu w1 hR h
    have h12 := h 12 (by decide)
    simp only [mixA, mixL, cond_true, cond_false]
    go_wp2
    go_ret
    exact ⟨congrArg Ending.returned h12, hG.trans hR⟩
end Go.Proofs.YtmnncildkomagaaDoor
