/-
  LAYER 6 (deadlinequeue): two items compared; the heap's Less.
-/
import Derived.Test.YtjcoghjkjnhljaaDqOps
import Derived.Test.YtjcoghjkjnhljaaDqCmp
import Derived.Sort.Grow
import Derived.Lib.Hide
namespace Go.Proofs.Ytjcoghjkjnhljaa
open Go Go.RowKit Go.IntWalk Go.Sort
set_option maxRecDepth 8000

/-- Draws and new blocks. -/
def Gq (w w' : World) : Prop := ∃ q os, w' = grow (w.drewN q) os
theorem Gq.refl (w : World) : Gq w w := ⟨0, #[], by rw [grow_empty]; rfl⟩
theorem Gq.alloc (w : World) (o : Obj) : Gq w (w.alloc o) := ⟨0, #[o], alloc_eq_grow w o⟩
theorem Gq.drew (w : World) : Gq w w.drew := ⟨1, #[], by rw [grow_empty]; rfl⟩
theorem Gq.trans {a b c : World} (h : Gq a b) (h' : Gq b c) : Gq a c := by
  obtain ⟨q, os, rfl⟩ := h
  obtain ⟨q', os', rfl⟩ := h'
  refine ⟨q + q', os ++ os', ?_⟩
  simp only [grow, World.drewN, Array.append_assoc, Nat.add_assoc]
theorem Gq.grew {w w' : World} (h : Gq w w') : Grew w w' := by
  obtain ⟨q, os, rfl⟩ := h
  exact ⟨rfl, rfl, rfl, by simp [grow, World.drewN], fun k hk => by
    show (w.heap ++ os)[k]? = _
    rw [Array.getElem?_append_left hk]⟩
instance : Keeps Gq := ⟨Gq.grew⟩
section
variable {P : Program} {id : Nat} {ops : Array Oper} {Q : Exit → Act → World → Prop} {a0 : Act} {w0 : World}
theorem wp_gq (sl : List (Option Nat)) (D : List Bool) (ps : List (Value → World → Prop)) (hm : P.follows .mixedOrders = true) (hok : regionOk ops sl D = true) (hD : D.length = a0.tmps.size) (hps : Monos ps)
    (hs : Steps P Gq (postAt ps) sl (mixA D a0) w0.drew 0 ops.toList) (hend : ∀ u w, Gq w0.drew w → (∀ i, i < ops.size → postAt ps i (uval sl u i) w) → Q .normal (mixA D a0 u) w) : (Code.region id ops true).wp P Q a0 w0 :=
  wp_region_posts sl D Gq (postAt ps) hm hok hD Gq.refl Gq.trans (fun i v w w' hg h => hps.at i v w w' hg.grew h) hs hend
end
/-- A slice of two numbers. -/
def Two (x y : Int) (v : Value) (w : World) : Prop := ∃ B, v = .slice (some ⟨B, 0, none⟩) 2 2 ∧ Cel B 0 (.int .i64 x) w ∧ Cel B 1 (.int .i64 y) w
theorem Two.grew {x y : Int} {v : Value} {w w' : World} (h : Two x y v w) (hg : Grew w w') : Two x y v w' := by
  obtain ⟨B, h1, h2, h3⟩ := h
  exact ⟨B, h1, h2.grew hg, h3.grew hg⟩
theorem Two.made (x y : Int) (w : World) : Two x y (.slice (some ⟨w.heap.size, 0, none⟩) 2 2) (w.alloc (.cells #[.int .i64 x, .int .i64 y] 3)) :=
  ⟨_, rfl, ⟨by go_simp⟩, ⟨by go_simp⟩⟩
section
variable {dst : Option Tmp} {ty : TypeId} {pos : String} {after : Array Edge} {g : Option (Nat × Bool)} {a : Act} {w : World} {T : Value → World → Prop}
theorem runs_bs2 {x y : Nat} {b c : Int} (hx : a.eval (.tmp x) = .int .i64 b) (hy : a.eval (.tmp y) = .int .i64 c) (h : T (.slice (some ⟨w.heap.size, 0, none⟩) 2 2) (w.alloc (.cells #[.int .i64 b, .int .i64 c] 3))) :
    Runs Try.prog ⟨dst, .buildSlice 103 2 #[(0, .tmp x), (1, .tmp y)], ty, pos, after, g⟩ a w T := by
  rw [slot_eval, ← slot_get] at hx hy
  refine Runs.value (v := .slice (some ⟨w.heap.size, 0, none⟩) 2 2) (w' := w.alloc (.cells #[.int .i64 b, .int .i64 c] 3)) ?_ h
  simp only [execOp]
  go_simp
theorem enters_c64 : Enters Try.prog 46 := fun args w => by go_simp
theorem enters_ci : Enters Try.prog 47 := fun args w => by go_simp
theorem enters_or : Enters Try.prog 45 := fun args w => by go_simp
theorem enters_compare : Enters Try.prog 39 := fun args w => by go_simp
theorem runs_orcall {x : Nat} {ts : Array TypeId} {b c : Int} (hx : Two b c (slot a x) w) (h : T (.int .i64 (orI b c)) w) : Runs Try.prog ⟨dst, .call { callee := .value (.func 45), args := #[.tmp x], argTypes := ts }, ty, pos, after, g⟩ a w T := by
  obtain ⟨B, h1, h2, h3⟩ := hx
  exact runs_c1 enters_or (ev h1) ((or_any b c B w h2.c h3.c).mono fun e w' he => ⟨_, he.1, he.2 ▸ h⟩)
end
theorem cmp64_gq (x y : Int) (w : World) : Calls Try.prog 46 #[.int .i64 x, .int .i64 y] w fun e w' => e = .returned (.int .i64 (cmpI x y)) ∧ Gq w w' := (cmp64 x y w).mono fun _ _ h => ⟨h.1, h.2 ▸ Gq.refl _⟩
theorem cmpint_gq (x y : Int) (w : World) : Calls Try.prog 47 #[.int .i64 x, .int .i64 y] w fun e w' => e = .returned (.int .i64 (cmpI x y)) ∧ Gq w w' := (cmpint x y w).mono fun _ _ h => ⟨h.1, h.2 ▸ Gq.refl _⟩
set_option maxHeartbeats 1000000 in
theorem compare_any (x y : It) (w : World) : Calls Try.prog 39 #[itv x, itv y] w fun e w' => e = .returned (.int .i64 (cf x y)) ∧ Gq w w' := by
  go_enter Try.func39, Try.ntmps39
  go_wp2
  have hG : Gq w ((w.alloc (.cells #[.int .i64 x.1, .int .i64 x.2] 32)).alloc (.cells #[.int .i64 y.1, .int .i64 y.2] 32)) := (Gq.alloc _ _).trans (Gq.alloc _ _)
  have hA : Bx w.heap.size 0 x ((w.alloc (.cells #[.int .i64 x.1, .int .i64 x.2] 32)).alloc (.cells #[.int .i64 y.1, .int .i64 y.2] 32)) := ⟨by go_simp, by go_simp⟩
  have hB : Bx (w.heap.size + 1) 0 y ((w.alloc (.cells #[.int .i64 x.1, .int .i64 x.2] 32)).alloc (.cells #[.int .i64 y.1, .int .i64 y.2] 32)) := ⟨by go_simp, by go_simp⟩
  generalize World.alloc _ _ = W at hG hA hB ⊢
  replace hG := hG.trans (Gq.drew W)
  replace hA := hA.grew (Grew.drew W)
  replace hB := hB.grew (Grew.drew W)
  have hA0 : Cel w.heap.size 0 (.int .i64 x.1) W.drew := ⟨hA.c0⟩
  have hB0 : Cel (w.heap.size + 1) 0 (.int .i64 y.1) W.drew := ⟨hB.c0⟩
  have hA1 : Cel w.heap.size 1 (.int .i64 x.2) W.drew := ⟨hA.c1⟩
  have hB1 : Cel (w.heap.size + 1) 1 (.int .i64 y.2) W.drew := ⟨hB.c1⟩
  refine wp_gq [some 5, some 6, some 7, some 8, some 9, some 10, some 11, some 12, some 13, some 14, some 15, some 16, some 4] [false, false, false, false, true, true, true, true, true, true, true, true, true, true, true, true, true] [fun v _ => v = .pointer (some ⟨w.heap.size, 1, none⟩), fun v _ => v = .int .i64 (x.2), fun v _ => v = .pointer (some ⟨(w.heap.size + 1), 1, none⟩), fun v _ => v = .int .i64 (y.2), fun v _ => v = .int .i64 (cmpI (x.2) (y.2)), fun v _ => v = .pointer (some ⟨w.heap.size, 0, none⟩), fun v _ => v = .int .i64 (x.1), fun v _ => v = .pointer (some ⟨(w.heap.size + 1), 0, none⟩), fun v _ => v = .int .i64 (y.1), fun v _ => v = .int .i64 (cmpI (x.1) (y.1)), fun v w => Two (cmpI x.2 y.2) (cmpI x.1 y.1) v w, fun v _ => v = .int .i64 (cf x y), fun v _ => v = .int .i64 (cf x y)] (by kernel_rfl) (by kernel_rfl) rfl ?_ ⟨?_, ?_, ?_, ?_, ?_, ?_, ?_, ?_, ?_, ?_, ?_, ?_, ?_, trivial⟩ ?_
  · exact ⟨fun _ _ _ _ h => h, fun _ _ _ _ h => h, fun _ _ _ _ h => h, fun _ _ _ _ h => h, fun _ _ _ _ h => h, fun _ _ _ _ h => h, fun _ _ _ _ h => h, fun _ _ _ _ h => h, fun _ _ _ _ h => h, fun _ _ _ _ h => h, fun v w w1 hg h => h.grew hg, fun _ _ _ _ h => h, fun _ _ _ _ h => h, trivial⟩
  · intro u w hR hd; exact runs_fld32_1 (ev rfl) ⟨Gq.refl _, rfl⟩
  · intro u w hR hd; exact runs_ld2 (ev (hd.1 rfl)) (hA1.kept hR) ⟨Gq.refl _, rfl⟩
  · intro u w hR hd; exact runs_fld32_1 (ev rfl) ⟨Gq.refl _, rfl⟩
  · intro u w hR hd; exact runs_ld2 (ev (hd.1 rfl)) (hB1.kept hR) ⟨Gq.refl _, rfl⟩
  · intro u w hR hd; exact runs_c2 enters_c64 (ev (hd.1 rfl)) (ev (hd.2.1 rfl)) (callp (fun _ e => e) (cmp64_gq _ _ _))
  · intro u w hR hd; exact runs_fld32_0 (ev rfl) ⟨Gq.refl _, rfl⟩
  · intro u w hR hd; exact runs_ld3 (ev (hd.1 rfl)) (hA0.kept hR) ⟨Gq.refl _, rfl⟩
  · intro u w hR hd; exact runs_fld32_0 (ev rfl) ⟨Gq.refl _, rfl⟩
  · intro u w hR hd; exact runs_ld3 (ev (hd.1 rfl)) (hB0.kept hR) ⟨Gq.refl _, rfl⟩
  · intro u w hR hd; exact runs_c2 enters_ci (ev (hd.1 rfl)) (ev (hd.2.1 rfl)) (callp (fun _ e => e) (cmpint_gq _ _ _))
  · intro u w hR hd; exact runs_bs2 (ev (hd.1 rfl)) (ev (hd.2.1 rfl)) ⟨Gq.alloc _ _, Two.made _ _ _⟩
  · intro u w hR hd; exact runs_orcall (hd.1 rfl) ⟨Gq.refl _, rfl⟩
  · intro u w hR hd; exact runs_mva (ev (hd.1 rfl)) ⟨Gq.refl _, rfl⟩
  · intro uu w1 hR h
    have h12 := h 12 (by decide)
    simp only [mixA, mixL, cond_true, cond_false]
    go_wp2
    go_ret
    exact ⟨congrArg Ending.returned h12, hG.trans hR⟩
theorem compare_grew (x y : It) (w : World) : Calls Try.prog 39 #[itv x, itv y] w fun e w' => e = .returned (.int .i64 (cf x y)) ∧ Grew w w' := (compare_any x y w).mono fun _ _ h => ⟨h.1, h.2.grew⟩
set_option maxHeartbeats 1000000 in
/-- Less. -/
theorem less_any (q g n c i j : Nat) (x y : It) (w : World) (hS : Cel q 0 (.slice (some ⟨g, 0, none⟩) n c) w) (hi : i < n) (hj : j < n) (hX : Bx g (0 + i * 2) x w) (hY : Bx g (0 + j * 2) y w) :
    Calls Try.prog 82 #[.pointer (some ⟨q, 0, none⟩), .int .i64 (i : Int), .int .i64 (j : Int)] w fun e w' => e = .returned (.bool (bef x y)) ∧ Grew w w' := by
  replace hS := Lib.hid (hS.grew (Grew.drew w))
  replace hX := Lib.hid (hX.grew (Grew.drew w))
  replace hY := Lib.hid (hY.grew (Grew.drew w))
  go_enter Try.func82, Try.ntmps82
  go_wp2
  replace hS := hS.out
  replace hX := hX.out
  replace hY := hY.out
  refine wp_posts [some 7, some 8, some 9, some 10, some 11, some 12, some 13, some 14, some 15, some 16, some 17, some 18, some 19, some 20, some 21, some 22, some 6] [false, false, false, false, false, false, true, true, true, true, true, true, true, true, true, true, true, true, true, true, true, true, true] [fun v _ => v = .pointer (some ⟨q, 0, none⟩), fun v _ => v = .pointer (some ⟨q, 0, none⟩), fun v _ => v = .pointer (some ⟨q, 0, none⟩), fun v _ => v = .slice (some ⟨g, 0, none⟩) (n) (c), fun v _ => v = .int .i64 ((i : Int)), fun v _ => v = .pointer (some ⟨g, 0 + i * 2, none⟩), fun v _ => v = itv (x), fun v _ => v = .pointer (some ⟨q, 0, none⟩), fun v _ => v = .pointer (some ⟨q, 0, none⟩), fun v _ => v = .pointer (some ⟨q, 0, none⟩), fun v _ => v = .slice (some ⟨g, 0, none⟩) (n) (c), fun v _ => v = .int .i64 ((j : Int)), fun v _ => v = .pointer (some ⟨g, 0 + j * 2, none⟩), fun v _ => v = itv (y), fun v _ => v = .int .i64 (cf x y), fun v _ => v = .bool (bef x y), fun v _ => v = .bool (bef x y)] (by kernel_rfl) (by kernel_rfl) rfl ?_ ⟨?_, ?_, ?_, ?_, ?_, ?_, ?_, ?_, ?_, ?_, ?_, ?_, ?_, ?_, ?_, ?_, ?_, trivial⟩ ?_
  · exact ⟨fun _ _ _ _ h => h, fun _ _ _ _ h => h, fun _ _ _ _ h => h, fun _ _ _ _ h => h, fun _ _ _ _ h => h, fun _ _ _ _ h => h, fun _ _ _ _ h => h, fun _ _ _ _ h => h, fun _ _ _ _ h => h, fun _ _ _ _ h => h, fun _ _ _ _ h => h, fun _ _ _ _ h => h, fun _ _ _ _ h => h, fun _ _ _ _ h => h, fun _ _ _ _ h => h, fun _ _ _ _ h => h, fun _ _ _ _ h => h, trivial⟩
  · intro u w hR hd; exact runs_mv (ev rfl) ⟨Grew.refl _, rfl⟩
  · intro u w hR hd; exact runs_nil (ev (hd.1 rfl)) ⟨Grew.refl _, rfl⟩
  · intro u w hR hd; exact runs_fld63_0 (ev (hd.1 rfl)) ⟨Grew.refl _, rfl⟩
  · intro u w hR hd; exact runs_ld39 (ev (hd.1 rfl)) (hS.kept hR) ⟨Grew.refl _, rfl⟩
  · intro u w hR hd; exact runs_mv (ev rfl) ⟨Grew.refl _, rfl⟩
  · intro u w hR hd; exact runs_ix39 (ev (hd.1 rfl)) (ev (hd.2.1 rfl)) (by omega) ⟨Grew.refl _, rfl⟩
  · intro u w hR hd; exact runs_bx32 (ev (hd.1 rfl)) (hX.kept hR) ⟨Grew.refl _, rfl⟩
  · intro u w hR hd; exact runs_mv (ev rfl) ⟨Grew.refl _, rfl⟩
  · intro u w hR hd; exact runs_nil (ev (hd.1 rfl)) ⟨Grew.refl _, rfl⟩
  · intro u w hR hd; exact runs_fld63_0 (ev (hd.1 rfl)) ⟨Grew.refl _, rfl⟩
  · intro u w hR hd; exact runs_ld39 (ev (hd.1 rfl)) (hS.kept hR) ⟨Grew.refl _, rfl⟩
  · intro u w hR hd; exact runs_mv (ev rfl) ⟨Grew.refl _, rfl⟩
  · intro u w hR hd; exact runs_ix39 (ev (hd.1 rfl)) (ev (hd.2.1 rfl)) (by omega) ⟨Grew.refl _, rfl⟩
  · intro u w hR hd; exact runs_bx32 (ev (hd.1 rfl)) (hY.kept hR) ⟨Grew.refl _, rfl⟩
  · intro u w hR hd; exact runs_c2 enters_compare (ev (hd.1 rfl)) (ev (hd.2.1 rfl)) (callp (fun _ e => e) (compare_grew _ _ _))
  · intro u w hR hd; exact runs_lss3 (ev (hd.1 rfl)) rfl ⟨Grew.refl _, (congrArg Value.bool (cf_neg x y))⟩
  · intro u w hR hd; exact runs_mva (ev (hd.1 rfl)) ⟨Grew.refl _, rfl⟩
  · intro uu w1 hR h
    have h16 := h 16 (by decide)
    simp only [mixA, mixL, cond_true, cond_false]
    go_wp2
    go_ret
    exact ⟨congrArg Ending.returned h16, (Grew.drew w).trans hR⟩
end Go.Proofs.Ytjcoghjkjnhljaa
