/-
  CONTRACTS OF LAYER 4 (bitset), FURTHER: With, Without.
-/
import Derived.Test.YtgkjkchhepmakaaDoorBitsetSets4
import Derived.Deep.RegionWith
namespace Go.Proofs.YtgkjkchhepmakaaDoor
open Go.RowKit Go.IntWalk

theorem with_any (p : Option Addr) (n c : Nat) (f : Nat → Bool) (z : Int) (hz0 : -9223372036854775808 ≤ z) (hz1 : z ≤ 9223372036854775807) (w : World) (h : St w p n c f) :
    Calls Tryd.prog 27 #[.agg #[.slice p n c], .int .i64 z] w fun e w' => ∃ r k j, e = .returned (.agg #[.slice r k j]) ∧ New w r ∧ St w' r k j (fun x => f x || ofl [z] x) ∧ Below w.heap.size w w' := by
  go_enter Tryd.func27, Tryd.ntmps27
  go_wp2
  generalize hW : World.alloc _ _ = W0
  have hb0 := Lib.hid (show Below w.heap.size w W0 by rw [← hW]; exact below2 w _ _)
  have hsz := Lib.hid (show w.heap.size + 1 < W0.heap.size by rw [← hW]; simp)
  have hc0 := Lib.hid (show W0.cell? ⟨w.heap.size + 1, 0, none⟩ = some (.slice none 0 0) by rw [← hW]; simp [go_sem])
  have hf0 := Lib.hid (show W0.frozen? ⟨w.heap.size + 1, 0, none⟩ = false by rw [← hW]; simp [go_sem])
  have hx0 : W0.cell? ⟨w.heap.size, 0, none⟩ = some (.slice p n c) := by rw [← hW]; simp [go_sem]
  clear hW
  have hx0a : ∀ o, (W0.alloc o).cell? ⟨w.heap.size, 0, none⟩ = some (.slice p n c) := fun o => cell_alloc hx0 o
  have hlit := Lib.hid (show Rd iv (W0.alloc (.cells #[.int .i64 z] 3)).drew (some ⟨W0.heap.size, 0, none⟩) 1 [z] from (Rd.made iv W0 [z] 1 _ _ _ rfl rfl (by omega)).drew)
  have hwf := Lib.hid (show ∀ x ∈ [z], -9223372036854775808 ≤ x ∧ x ≤ 9223372036854775807 by simp; omega)
  go_region_with (first
    | (go_at_call 13; (with_reducible refine (of_any _ 1 1 [z] _ rfl hlit.out hwf.out).mono ?_); rintro e w1 ⟨r1, k1, j1, rfl, hn1, hs1, hb1⟩; have hsz1 := Lib.hid (show W0.heap.size < w1.heap.size from Nat.lt_of_lt_of_le (by simp) hb1.size); have hb01 := Lib.hid (((Below.refl W0.heap.size W0).alloc (Nat.le_refl _) (.cells #[.int .i64 z] 3)).drew.trans (hb1.mono (by simp))); have hx1 := (hb01.out.cell (p := ⟨w.heap.size, 0, none⟩) (by have := hsz.out; show w.heap.size < _; omega)).trans hx0)
    | (go_at_call 20; (with_reducible refine (union_any _ _ _ _ _ _ _ _ _ (h.kept (hb0.out.trans (hb01.out.mono hb0.out.size))) hs1).mono ?_); rintro e w2 ⟨r2, k2, j2, rfl, hn2, hs2, hb2⟩; have hb02 := Lib.hid (hb01.out.trans (hb2.mono hb01.out.size)); have hcc2 := (hb02.out.cell (p := ⟨w.heap.size + 1, 0, none⟩) hsz.out).trans hc0.out; have hcf2 := (below_frozen hb02.out (p := ⟨w.heap.size + 1, 0, none⟩) hsz.out).trans hf0.out))
  all_goals go_wp2
  all_goals try simp only [Exit.inBlock, Exit.then]
  all_goals refine ret_set rfl rfl hcc2 ?_
  all_goals have hnew : ∀ a, r2 = some a → w.heap.size + 1 < a.block := fun a ha => by have h1 := hn2 a ha; have h2 := hsz1.out; have h3 := hsz.out; omega
  all_goals exact ⟨r2, k2, j2, rfl, fun a ha => by have := hnew a ha; omega, hs2.apart _ 0 _ (fun a ha => by have := hnew a ha; omega), set_below (hb0.out.trans (hb02.out.mono hb0.out.size)) _ 0 _ (by omega)⟩
theorem without_any (p : Option Addr) (n c : Nat) (f : Nat → Bool) (z : Int) (hz0 : -9223372036854775808 ≤ z) (hz1 : z ≤ 9223372036854775807) (w : World) (h : St w p n c f) :
    Calls Tryd.prog 26 #[.agg #[.slice p n c], .int .i64 z] w fun e w' => ∃ r k j, e = .returned (.agg #[.slice r k j]) ∧ New w r ∧ St w' r k j (fun x => f x && !ofl [z] x) ∧ Below w.heap.size w w' := by
  go_enter Tryd.func26, Tryd.ntmps26
  go_wp2
  generalize hW : World.alloc _ _ = W0
  have hb0 := Lib.hid (show Below w.heap.size w W0 by rw [← hW]; exact below2 w _ _)
  have hsz := Lib.hid (show w.heap.size + 1 < W0.heap.size by rw [← hW]; simp)
  have hc0 := Lib.hid (show W0.cell? ⟨w.heap.size + 1, 0, none⟩ = some (.slice none 0 0) by rw [← hW]; simp [go_sem])
  have hf0 := Lib.hid (show W0.frozen? ⟨w.heap.size + 1, 0, none⟩ = false by rw [← hW]; simp [go_sem])
  have hx0 : W0.cell? ⟨w.heap.size, 0, none⟩ = some (.slice p n c) := by rw [← hW]; simp [go_sem]
  clear hW
  have hx0a : ∀ o, (W0.alloc o).cell? ⟨w.heap.size, 0, none⟩ = some (.slice p n c) := fun o => cell_alloc hx0 o
  have hlit := Lib.hid (show Rd iv (W0.alloc (.cells #[.int .i64 z] 3)).drew (some ⟨W0.heap.size, 0, none⟩) 1 [z] from (Rd.made iv W0 [z] 1 _ _ _ rfl rfl (by omega)).drew)
  have hwf := Lib.hid (show ∀ x ∈ [z], -9223372036854775808 ≤ x ∧ x ≤ 9223372036854775807 by simp; omega)
  go_region_with (first
    | (go_at_call 13; (with_reducible refine (of_any _ 1 1 [z] _ rfl hlit.out hwf.out).mono ?_); rintro e w1 ⟨r1, k1, j1, rfl, hn1, hs1, hb1⟩; have hsz1 := Lib.hid (show W0.heap.size < w1.heap.size from Nat.lt_of_lt_of_le (by simp) hb1.size); have hb01 := Lib.hid (((Below.refl W0.heap.size W0).alloc (Nat.le_refl _) (.cells #[.int .i64 z] 3)).drew.trans (hb1.mono (by simp))); have hx1 := (hb01.out.cell (p := ⟨w.heap.size, 0, none⟩) (by have := hsz.out; show w.heap.size < _; omega)).trans hx0)
    | (go_at_call 24; (with_reducible refine (minus_any _ _ _ _ _ _ _ _ _ (h.kept (hb0.out.trans (hb01.out.mono hb0.out.size))) hs1).mono ?_); rintro e w2 ⟨r2, k2, j2, rfl, hn2, hs2, hb2⟩; have hb02 := Lib.hid (hb01.out.trans (hb2.mono hb01.out.size)); have hcc2 := (hb02.out.cell (p := ⟨w.heap.size + 1, 0, none⟩) hsz.out).trans hc0.out; have hcf2 := (below_frozen hb02.out (p := ⟨w.heap.size + 1, 0, none⟩) hsz.out).trans hf0.out))
  all_goals go_wp2
  all_goals try simp only [Exit.inBlock, Exit.then]
  all_goals refine ret_set rfl rfl hcc2 ?_
  all_goals have hnew : ∀ a, r2 = some a → w.heap.size + 1 < a.block := fun a ha => by have h1 := hn2 a ha; have h2 := hsz1.out; have h3 := hsz.out; omega
  all_goals exact ⟨r2, k2, j2, rfl, fun a ha => by have := hnew a ha; omega, hs2.apart _ 0 _ (fun a ha => by have := hnew a ha; omega), set_below (hb0.out.trans (hb02.out.mono hb0.out.size)) _ 0 _ (by omega)⟩
end Go.Proofs.YtgkjkchhepmakaaDoor
