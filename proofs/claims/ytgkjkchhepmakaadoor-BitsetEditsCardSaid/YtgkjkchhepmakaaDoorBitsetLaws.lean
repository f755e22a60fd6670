/-
  THE STATEMENTS OF LAYER 4 (bitset), WALKED: BitsetOf, BitsetOperations.
-/
import Derived.Test.YtgkjkchhepmakaaDoorBitsetAwake
namespace Go.Proofs.YtgkjkchhepmakaaDoor
open Go.RowKit Go.IntWalk

theorem wf_in {l : List Int} (h : ∀ x ∈ l, (Lit.int .i64 x).wf = true) : ∀ z ∈ l, -9223372036854775808 ≤ z ∧ z ≤ 9223372036854775807 := fun z hz => by
  have := h z hz
  simp only [Lit.wf, Bool.and_eq_true, decide_eq_true_eq] at this
  have m1 : IntKind.i64.min = -9223372036854775808 := rfl
  have m2 : IntKind.i64.max = 9223372036854775807 := rfl
  omega

set_option maxRecDepth 20000 in
theorem of_walk (p : Option Addr) (n c : Nat) (l : List Int) (z : Int) (hz1 : z ≤ 9223372036854775807) (W : World) (hn : l.length = n) (hl : Rd iv W p c l) (hwf0 : ∀ x ∈ l, (Lit.int .i64 x).wf = true) (he : Env W) :
    Calls Tryd.prog 3 #[.slice p n c, .int .i64 z] W fun e W' => e = .returned (.bool true) ∧ Below W.heap.size W W' := by
  subst hn
  have hwf := wf_in hwf0
  clear hwf0
  have HB := Below.refl W.heap.size W
  have hmem := (LstI.of l).mem z
  by_cases hsm : l.length ≤ 60
  · have hs60 : l.length ≤ 1048576 := by omega
    have hd : decide (l.length ≤ 60) = true := by simpa using hsm
    go_enter Tryd.func3, Tryd.ntmps3
    go_wp2_with (first
      | (go_at_call 11; (with_reducible refine (awake_any _ he).mono ?_); rintro e w1 ⟨rfl, hb⟩; replace hl := Rd.kept hl hb; replace he := Env.kept he hb; replace HB := HB.trans (hb.mono HB.size); clear hb)
      | (go_at_call 12; (with_reducible refine (small_any _ _ _ _).mono ?_); rintro e _ ⟨rfl, rfl⟩)
      | (go_at_call 13; (with_reducible refine (of_any _ _ _ l _ rfl hl hwf).mono ?_); rintro e w2 ⟨r, k, j, rfl, -, hs, hb⟩; replace hl := Rd.kept hl hb; replace he := Env.kept he hb; replace HB := HB.trans (hb.mono HB.size); clear hb)
      | (go_at_call 14; generalize hW : World.alloc _ _ = v2; have hb : Below w2.heap.size w2 v2 := (by rw [← hW]; exact ((Below.refl _ _).alloc (Nat.le_refl _) _)); have hbox : v2.cell? ⟨w2.heap.size, 0, none⟩ = some (.slice r k j) := (by rw [← hW]; exact new_cell _ _ _); clear hW; replace hl := Rd.kept hl hb; replace he := Env.kept he hb; replace HB := HB.trans (hb.mono HB.size); replace hs := St.kept hs hb; clear hb; generalize w2.heap.size = S at hbox ⊢; (with_reducible refine (rof_any _ _ _ l _ rfl hs60 hl).mono ?_); rintro e w3 ⟨r2, _, j2, rfl, rfl, hy, hb⟩; replace hl := Rd.kept hl hb; replace he := Env.kept he hb; replace HB := HB.trans (hb.mono HB.size); replace hs := St.kept hs hb; replace hbox := (hb.cell (p := ⟨S, 0, none⟩) (World.block_lt_of_cell? _ _ hbox)).trans hbox; clear hb)
      | (go_at_call 15; (with_reducible refine (same_any _ _ _ _ _ _ _ _ _ _ hs rfl hy (LstI.of l) (fun _ => rfl) he).mono ?_); rintro e w4 ⟨rfl, hb⟩; replace hl := Rd.kept hl hb; replace he := Env.kept he hb; replace HB := HB.trans (hb.mono HB.size); replace hs := St.kept hs hb; replace hbox := (hb.cell (p := ⟨S, 0, none⟩) (World.block_lt_of_cell? _ _ hbox)).trans hbox; replace hy := Rd.kept hy hb; clear hb)
      | (go_at_call 16; (with_reducible refine (has_any _ _ _ _ z hz1 _ hs).mono ?_); rintro e w5 ⟨rfl, hb⟩; replace hl := Rd.kept hl hb; replace he := Env.kept he hb; replace HB := HB.trans (hb.mono HB.size); replace hs := St.kept hs hb; replace hbox := (hb.cell (p := ⟨S, 0, none⟩) (World.block_lt_of_cell? _ _ hbox)).trans hbox; replace hy := Rd.kept hy hb; clear hb)
      | (go_at_call 17; (with_reducible refine (rhas_any _ _ _ _ z _ rfl hy).mono ?_); rintro e _ ⟨rfl, rfl⟩))
    go_ret
    have hdec : decide (z ∈ l.foldl insZ []) = (l.foldl insZ []).contains z := by simp
    exact ⟨ret_bool (by rw [hdec, hmem]; simp), HB⟩
  · have hd : decide (l.length ≤ 60) = false := by simpa using hsm
    go_enter Tryd.func3, Tryd.ntmps3
    go_wp2_with (first
      | (go_at_call 11; (with_reducible refine (awake_any _ he).mono ?_); rintro e w1 ⟨rfl, hb⟩; replace he := Env.kept he hb; replace HB := HB.trans (hb.mono HB.size); clear hb)
      | (go_at_call 12; (with_reducible refine (small_any _ _ _ _).mono ?_); rintro e _ ⟨rfl, rfl⟩))
    go_ret
    exact ⟨rfl, HB⟩

theorem ofl_lt (l : List Int) (n : Nat) (h : ofl l n = true) : n < 65536 := by
  unfold ofl at h
  simp at h
  exact h.1
theorem of_len (l : List Int) (h : l.length ≤ 60) : (l.foldl insZ []).length ≤ 1048576 := by
  have := fold_len l []
  simp at this
  omega
set_option maxRecDepth 20000 in
set_option maxHeartbeats 1000000 in
theorem operations_walk (p : Option Addr) (n c : Nat) (l : List Int) (q : Option Addr) (m d : Nat) (l2 : List Int) (W : World) (hn : l.length = n) (hm : l2.length = m) (hl : Rd iv W p c l) (hl2 : Rd iv W q d l2) (hwf0 : ∀ x ∈ l, (Lit.int .i64 x).wf = true) (hwf02 : ∀ x ∈ l2, (Lit.int .i64 x).wf = true) (he : Env W) :
    Calls Tryd.prog 5 #[.slice p n c, .slice q m d] W fun e W' => e = .returned (.bool true) ∧ Below W.heap.size W W' := by
  subst hn hm
  have hwf := wf_in hwf0
  have hwf2 := wf_in hwf02
  clear hwf0 hwf02
  have HB := Below.refl W.heap.size W
  by_cases hsm : l.length ≤ 60
  · by_cases hsm2 : l2.length ≤ 60
    · have hs60 : l.length ≤ 1048576 := by omega
      have hs602 : l2.length ≤ 1048576 := by omega
      have hd : decide (l.length ≤ 60) = true := by simpa using hsm
      have hd2 : decide (l2.length ≤ 60) = true := by simpa using hsm2
      have hxl := of_len l hsm
      have hyl := of_len l2 hsm2
      have hLs := LstI.of l
      have hLt := LstI.of l2
      have hLu := LstI.union hLs hLt (ofl_lt l2)
      have hLi := LstI.inter hLs hLt
      have hLm := LstI.minus hLs hLt
      go_enter Tryd.func5, Tryd.ntmps5
      go_wp2_with (first
        | (go_at_call 11; (with_reducible refine (awake_any _ he).mono ?_); rintro e w1 ⟨rfl, hb⟩; replace hl := Rd.kept hl hb; replace hl2 := Rd.kept hl2 hb; replace he := Env.kept he hb; replace HB := HB.trans (hb.mono HB.size); clear hb)
        | (go_at_call 12; (with_reducible refine (small_any _ _ _ _).mono ?_); rintro e _ ⟨rfl, rfl⟩)
        | (go_at_call 13; (with_reducible refine (of_any _ _ _ l _ rfl hl hwf).mono ?_); rintro e w2 ⟨r, k, j, rfl, -, hs, hb⟩; replace hl := Rd.kept hl hb; replace hl2 := Rd.kept hl2 hb; replace he := Env.kept he hb; replace HB := HB.trans (hb.mono HB.size); clear hb)
        | (go_at_call 13; (with_reducible refine (of_any _ _ _ l2 _ rfl hl2 hwf2).mono ?_); rintro e w3 ⟨r2, k2, j2, rfl, -, ht, hb⟩; replace hl := Rd.kept hl hb; replace hl2 := Rd.kept hl2 hb; replace he := Env.kept he hb; replace HB := HB.trans (hb.mono HB.size); replace hs := St.kept hs hb; clear hb)
        | (go_at_call 14; generalize hW : World.alloc _ _ = v3; have hb : Below w3.heap.size w3 v3 := (by rw [← hW]; exact (below2 _ _ _)); have hboxS : v3.cell? ⟨w3.heap.size, 0, none⟩ = some (.slice r k j) := (by rw [← hW]; exact cell_alloc (new_cell _ _ _) _); have hboxT : v3.cell? ⟨w3.heap.size + 1, 0, none⟩ = some (.slice r2 k2 j2) := (by rw [← hW]; exact new_at _ _ _ _ (by simp)); clear hW; replace hl := Rd.kept hl hb; replace hl2 := Rd.kept hl2 hb; replace he := Env.kept he hb; replace HB := HB.trans (hb.mono HB.size); replace hs := St.kept hs hb; replace ht := St.kept ht hb; clear hb; generalize w3.heap.size + 1 = T at hboxT ⊢; generalize w3.heap.size = S at hboxS ⊢; (with_reducible refine (rof_any _ _ _ l _ rfl hs60 hl).mono ?_); rintro e w4 ⟨r3, _, j3, rfl, rfl, hx, hb⟩; replace hl := Rd.kept hl hb; replace hl2 := Rd.kept hl2 hb; replace he := Env.kept he hb; replace HB := HB.trans (hb.mono HB.size); replace hs := St.kept hs hb; replace ht := St.kept ht hb; replace hboxT := (hb.cell (p := ⟨T, 0, none⟩) (World.block_lt_of_cell? _ _ hboxT)).trans hboxT; replace hboxS := (hb.cell (p := ⟨S, 0, none⟩) (World.block_lt_of_cell? _ _ hboxS)).trans hboxS; clear hb)
        | (go_at_call 14; (with_reducible refine (rof_any _ _ _ l2 _ rfl hs602 hl2).mono ?_); rintro e w5 ⟨r4, _, j4, rfl, rfl, hy, hb⟩; replace hl := Rd.kept hl hb; replace hl2 := Rd.kept hl2 hb; replace he := Env.kept he hb; replace HB := HB.trans (hb.mono HB.size); replace hs := St.kept hs hb; replace ht := St.kept ht hb; replace hboxT := (hb.cell (p := ⟨T, 0, none⟩) (World.block_lt_of_cell? _ _ hboxT)).trans hboxT; replace hboxS := (hb.cell (p := ⟨S, 0, none⟩) (World.block_lt_of_cell? _ _ hboxS)).trans hboxS; replace hx := Rd.kept hx hb; clear hb)
        | (go_at_call 20; (with_reducible refine (union_any _ _ _ _ _ _ _ _ _ hs ht).mono ?_); rintro e w6 ⟨r5, k5, j5, rfl, -, hu, hb⟩; replace hl := Rd.kept hl hb; replace hl2 := Rd.kept hl2 hb; replace he := Env.kept he hb; replace HB := HB.trans (hb.mono HB.size); replace hs := St.kept hs hb; replace ht := St.kept ht hb; replace hboxT := (hb.cell (p := ⟨T, 0, none⟩) (World.block_lt_of_cell? _ _ hboxT)).trans hboxT; replace hboxS := (hb.cell (p := ⟨S, 0, none⟩) (World.block_lt_of_cell? _ _ hboxS)).trans hboxS; replace hx := Rd.kept hx hb; replace hy := Rd.kept hy hb; clear hb)
        | (go_at_call 21; (with_reducible refine (runion_any _ _ _ _ _ _ _ _ _ rfl rfl hxl hyl hx hy).mono ?_); rintro e w7 ⟨r6, _, j6, rfl, rfl, hux, hb⟩; replace hl := Rd.kept hl hb; replace hl2 := Rd.kept hl2 hb; replace he := Env.kept he hb; replace HB := HB.trans (hb.mono HB.size); replace hs := St.kept hs hb; replace ht := St.kept ht hb; replace hboxT := (hb.cell (p := ⟨T, 0, none⟩) (World.block_lt_of_cell? _ _ hboxT)).trans hboxT; replace hboxS := (hb.cell (p := ⟨S, 0, none⟩) (World.block_lt_of_cell? _ _ hboxS)).trans hboxS; replace hx := Rd.kept hx hb; replace hy := Rd.kept hy hb; replace hu := St.kept hu hb; clear hb)
        | (go_at_call 15; (with_reducible refine (same_any _ _ _ _ _ _ _ _ _ _ hu rfl hux hLu (fun _ => rfl) he).mono ?_); rintro e w8 ⟨rfl, hb⟩; replace hl := Rd.kept hl hb; replace hl2 := Rd.kept hl2 hb; replace he := Env.kept he hb; replace HB := HB.trans (hb.mono HB.size); replace hs := St.kept hs hb; replace ht := St.kept ht hb; replace hboxT := (hb.cell (p := ⟨T, 0, none⟩) (World.block_lt_of_cell? _ _ hboxT)).trans hboxT; replace hboxS := (hb.cell (p := ⟨S, 0, none⟩) (World.block_lt_of_cell? _ _ hboxS)).trans hboxS; replace hx := Rd.kept hx hb; replace hy := Rd.kept hy hb; replace hu := St.kept hu hb; replace hux := Rd.kept hux hb; clear hb)
        | (go_at_call 22; (with_reducible refine (inter_any _ _ _ _ _ _ _ _ _ hs ht).mono ?_); rintro e w9 ⟨r7, k7, j7, rfl, -, hi, hb⟩; replace hl := Rd.kept hl hb; replace hl2 := Rd.kept hl2 hb; replace he := Env.kept he hb; replace HB := HB.trans (hb.mono HB.size); replace hs := St.kept hs hb; replace ht := St.kept ht hb; replace hboxT := (hb.cell (p := ⟨T, 0, none⟩) (World.block_lt_of_cell? _ _ hboxT)).trans hboxT; replace hboxS := (hb.cell (p := ⟨S, 0, none⟩) (World.block_lt_of_cell? _ _ hboxS)).trans hboxS; replace hx := Rd.kept hx hb; replace hy := Rd.kept hy hb; replace hu := St.kept hu hb; replace hux := Rd.kept hux hb; clear hb)
        | (go_at_call 23; (with_reducible refine (rinter_any _ _ _ _ _ _ _ _ _ rfl rfl hxl hx hy).mono ?_); rintro e w10 ⟨r8, _, j8, rfl, rfl, hix, hb⟩; replace hl := Rd.kept hl hb; replace hl2 := Rd.kept hl2 hb; replace he := Env.kept he hb; replace HB := HB.trans (hb.mono HB.size); replace hs := St.kept hs hb; replace ht := St.kept ht hb; replace hboxT := (hb.cell (p := ⟨T, 0, none⟩) (World.block_lt_of_cell? _ _ hboxT)).trans hboxT; replace hboxS := (hb.cell (p := ⟨S, 0, none⟩) (World.block_lt_of_cell? _ _ hboxS)).trans hboxS; replace hx := Rd.kept hx hb; replace hy := Rd.kept hy hb; replace hu := St.kept hu hb; replace hux := Rd.kept hux hb; replace hi := St.kept hi hb; clear hb)
        | (go_at_call 15; (with_reducible refine (same_any _ _ _ _ _ _ _ _ _ _ hi rfl hix hLi (fun _ => rfl) he).mono ?_); rintro e w11 ⟨rfl, hb⟩; replace hl := Rd.kept hl hb; replace hl2 := Rd.kept hl2 hb; replace he := Env.kept he hb; replace HB := HB.trans (hb.mono HB.size); replace hs := St.kept hs hb; replace ht := St.kept ht hb; replace hboxT := (hb.cell (p := ⟨T, 0, none⟩) (World.block_lt_of_cell? _ _ hboxT)).trans hboxT; replace hboxS := (hb.cell (p := ⟨S, 0, none⟩) (World.block_lt_of_cell? _ _ hboxS)).trans hboxS; replace hx := Rd.kept hx hb; replace hy := Rd.kept hy hb; replace hu := St.kept hu hb; replace hux := Rd.kept hux hb; replace hi := St.kept hi hb; replace hix := Rd.kept hix hb; clear hb)
        | (go_at_call 24; (with_reducible refine (minus_any _ _ _ _ _ _ _ _ _ hs ht).mono ?_); rintro e w12 ⟨r9, k9, j9, rfl, -, hm, hb⟩; replace hl := Rd.kept hl hb; replace hl2 := Rd.kept hl2 hb; replace he := Env.kept he hb; replace HB := HB.trans (hb.mono HB.size); replace hs := St.kept hs hb; replace ht := St.kept ht hb; replace hboxT := (hb.cell (p := ⟨T, 0, none⟩) (World.block_lt_of_cell? _ _ hboxT)).trans hboxT; replace hboxS := (hb.cell (p := ⟨S, 0, none⟩) (World.block_lt_of_cell? _ _ hboxS)).trans hboxS; replace hx := Rd.kept hx hb; replace hy := Rd.kept hy hb; replace hu := St.kept hu hb; replace hux := Rd.kept hux hb; replace hi := St.kept hi hb; replace hix := Rd.kept hix hb; clear hb)
        | (go_at_call 25; (with_reducible refine (rminus_any _ _ _ _ _ _ _ _ _ rfl rfl hxl hx hy).mono ?_); rintro e w13 ⟨r10, _, j10, rfl, rfl, hmx, hb⟩; replace hl := Rd.kept hl hb; replace hl2 := Rd.kept hl2 hb; replace he := Env.kept he hb; replace HB := HB.trans (hb.mono HB.size); replace hs := St.kept hs hb; replace ht := St.kept ht hb; replace hboxT := (hb.cell (p := ⟨T, 0, none⟩) (World.block_lt_of_cell? _ _ hboxT)).trans hboxT; replace hboxS := (hb.cell (p := ⟨S, 0, none⟩) (World.block_lt_of_cell? _ _ hboxS)).trans hboxS; replace hx := Rd.kept hx hb; replace hy := Rd.kept hy hb; replace hu := St.kept hu hb; replace hux := Rd.kept hux hb; replace hi := St.kept hi hb; replace hix := Rd.kept hix hb; replace hm := St.kept hm hb; clear hb)
        | (go_at_call 15; (with_reducible refine (same_any _ _ _ _ _ _ _ _ _ _ hm rfl hmx hLm (fun _ => rfl) he).mono ?_); rintro e w14 ⟨rfl, hb⟩; replace hl := Rd.kept hl hb; replace hl2 := Rd.kept hl2 hb; replace he := Env.kept he hb; replace HB := HB.trans (hb.mono HB.size); replace hs := St.kept hs hb; replace ht := St.kept ht hb; replace hboxT := (hb.cell (p := ⟨T, 0, none⟩) (World.block_lt_of_cell? _ _ hboxT)).trans hboxT; replace hboxS := (hb.cell (p := ⟨S, 0, none⟩) (World.block_lt_of_cell? _ _ hboxS)).trans hboxS; replace hx := Rd.kept hx hb; replace hy := Rd.kept hy hb; replace hu := St.kept hu hb; replace hux := Rd.kept hux hb; replace hi := St.kept hi hb; replace hix := Rd.kept hix hb; replace hm := St.kept hm hb; replace hmx := Rd.kept hmx hb; clear hb)
        | (go_at_call 15; (with_reducible refine (same_any _ _ _ _ _ _ _ _ _ _ hs rfl hx hLs (fun _ => rfl) he).mono ?_); rintro e w15 ⟨rfl, hb⟩; replace hl := Rd.kept hl hb; replace hl2 := Rd.kept hl2 hb; replace he := Env.kept he hb; replace HB := HB.trans (hb.mono HB.size); replace hs := St.kept hs hb; replace ht := St.kept ht hb; replace hboxT := (hb.cell (p := ⟨T, 0, none⟩) (World.block_lt_of_cell? _ _ hboxT)).trans hboxT; replace hboxS := (hb.cell (p := ⟨S, 0, none⟩) (World.block_lt_of_cell? _ _ hboxS)).trans hboxS; replace hx := Rd.kept hx hb; replace hy := Rd.kept hy hb; replace hu := St.kept hu hb; replace hux := Rd.kept hux hb; replace hi := St.kept hi hb; replace hix := Rd.kept hix hb; replace hm := St.kept hm hb; replace hmx := Rd.kept hmx hb; clear hb)
        | (go_at_call 15; (with_reducible refine (same_any _ _ _ _ _ _ _ _ _ _ ht rfl hy hLt (fun _ => rfl) he).mono ?_); rintro e w16 ⟨rfl, hb⟩; replace hl := Rd.kept hl hb; replace hl2 := Rd.kept hl2 hb; replace he := Env.kept he hb; replace HB := HB.trans (hb.mono HB.size); replace hs := St.kept hs hb; replace ht := St.kept ht hb; replace hboxT := (hb.cell (p := ⟨T, 0, none⟩) (World.block_lt_of_cell? _ _ hboxT)).trans hboxT; replace hboxS := (hb.cell (p := ⟨S, 0, none⟩) (World.block_lt_of_cell? _ _ hboxS)).trans hboxS; replace hx := Rd.kept hx hb; replace hy := Rd.kept hy hb; replace hu := St.kept hu hb; replace hux := Rd.kept hux hb; replace hi := St.kept hi hb; replace hix := Rd.kept hix hb; replace hm := St.kept hm hb; replace hmx := Rd.kept hmx hb; clear hb))
      go_ret
      exact ⟨rfl, HB⟩
    · have hd : decide (l.length ≤ 60) = true := by simpa using hsm
      have hd2 : decide (l2.length ≤ 60) = false := by simpa using hsm2
      go_enter Tryd.func5, Tryd.ntmps5
      go_wp2_with (first
      | (go_at_call 11; (with_reducible refine (awake_any _ he).mono ?_); rintro e w1 ⟨rfl, hb⟩; replace he := Env.kept he hb; replace HB := HB.trans (hb.mono HB.size); clear hb)
      | (go_at_call 12; (with_reducible refine (small_any _ _ _ _).mono ?_); rintro e _ ⟨rfl, rfl⟩))
      go_ret
      exact ⟨rfl, HB⟩
  · have hd : decide (l.length ≤ 60) = false := by simpa using hsm
    go_enter Tryd.func5, Tryd.ntmps5
    go_wp2_with (first
      | (go_at_call 11; (with_reducible refine (awake_any _ he).mono ?_); rintro e w1 ⟨rfl, hb⟩; replace he := Env.kept he hb; replace HB := HB.trans (hb.mono HB.size); clear hb)
      | (go_at_call 12; (with_reducible refine (small_any _ _ _ _).mono ?_); rintro e _ ⟨rfl, rfl⟩))
    go_ret
    exact ⟨rfl, HB⟩
end Go.Proofs.YtgkjkchhepmakaaDoor
