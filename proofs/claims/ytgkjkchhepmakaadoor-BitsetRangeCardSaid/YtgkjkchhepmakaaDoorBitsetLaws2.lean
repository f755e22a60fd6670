/-
  THE STATEMENTS OF LAYER 4 (bitset), WALKED, FURTHER: BitsetRange.
-/
import Derived.Test.YtgkjkchhepmakaaDoorBitsetLaws
import Derived.Deep.RegionWith
namespace Go.Proofs.YtgkjkchhepmakaaDoor
open Go.RowKit Go.IntWalk

set_option maxRecDepth 20000 in
theorem range_walk (lo hi : Int) (hlo : W64In lo) (W : World) (he : Env W) :
    Calls Tryd.prog 4 #[.int .i64 lo, .int .i64 hi] W fun e W' => e = .returned (.bool true) ∧ Below W.heap.size W W' := by
  have HB := Below.refl W.heap.size W
  have hL := LstI.run lo hi
  go_enter Tryd.func4, Tryd.ntmps4
  go_wp2_with (first
    | (go_at_call 11; (with_reducible refine (awake_any _ he).mono ?_); rintro e w1 ⟨rfl, hb⟩; replace he := Env.kept he hb; replace HB := HB.trans (hb.mono HB.size); clear hb)
    | (go_at_call 18; (with_reducible refine (range_any lo hi _).mono ?_); rintro e w2 ⟨r, k, j, rfl, -, hs, hb⟩; replace he := Env.kept he hb; replace HB := HB.trans (hb.mono HB.size); clear hb))
  generalize hW : World.alloc _ _ = V
  have hb : Below w2.heap.size w2 V := (by rw [← hW]; exact (Below.refl _ _).alloc (Nat.le_refl _) _)
  have hbox : V.cell? ⟨w2.heap.size, 0, none⟩ = some (.slice r k j) := (by rw [← hW]; exact new_cell _ _ _)
  clear hW
  replace he := Env.kept he hb
  replace hs := St.kept hs hb
  replace HB := HB.trans (hb.mono HB.size)
  clear hb
  generalize w2.heap.size = S at hbox ⊢
  have hrr := Lib.hid (rrange_any lo hi hlo)
  go_region_with (first
    | (go_at_call 19; (with_reducible refine (hrr.out _).mono ?_); rintro e w3 ⟨r3, _, j3, rfl, rfl, hy, hb0⟩; have hb : Below V.heap.size V w3 := (Below.refl V.heap.size V).drew.trans hb0; clear hb0; have hbox3 := (hb.cell (p := ⟨S, 0, none⟩) (World.block_lt_of_cell? _ _ hbox)).trans hbox; have he3 := Env.kept he hb; have hs3 := St.kept hs hb; have HB3 := HB.trans (hb.mono HB.size))
    | (go_at_call 15; (with_reducible refine (same_any _ _ _ _ _ _ _ _ _ _ hs3 rfl hy hL (fun _ => rfl) he3).mono ?_); rintro e w4 ⟨rfl, hb⟩; have HB4 := HB3.trans (hb.mono HB3.size)))
  all_goals simp only [List.getElem_toArray, List.getElem_cons_zero, List.getElem_cons_succ, Act.put, List.setIfInBounds_toArray, List.set_cons_succ, List.set_cons_zero]
  all_goals go_wp2
  all_goals go_ret
  all_goals exact ⟨rfl, HB4⟩
end Go.Proofs.YtgkjkchhepmakaaDoor
