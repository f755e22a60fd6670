/-
  LAYER 12 (cpu): trapped of the reference.
  LAYER 12 (cpu): Step of the reference.
  LAYER 12 (cpu): Step of the reference: what the instructions need.
-/
import Derived.Test.YtbhglpiiabpdjaaDoorShort
import Derived.Test.YtbhglpiiabpdjaaDoorCpuZ
import Derived.Deep.RegionHeld
namespace Go.Proofs.YtbhglpiiabpdjaaDoor
open Go Go.RowKit Go.IntWalk Go.WideShapes
set_option linter.unusedSimpArgs false
set_option linter.unusedVariables false
set_option maxRecDepth 8000
section
variable {dst : Option Tmp} {ty : TypeId} {pos : String} {after : Array Edge} {g : Option (Nat × Bool)} {a : Act} {w : World} {T : Value → World → Prop}
end
theorem rdata_any (n : Int) (w : World) : Calls Tryd.prog 58 #[.int .i64 n] w fun e w' => e = .returned (.bool (dat n)) ∧ w' = w := by
  obtain ⟨t, ht⟩ : ∃ t, (n.tmod 2 == 0) = t := ⟨_, rfl⟩
  have HD := Lib.hid (show dat n = (decide (2560 ≤ n) && (decide (n < 3584) && t)) from by rw [← ht]; rfl)
  go_enter Tryd.func58, Tryd.ntmps58
  go_wp2
  all_goals (go_ret; refine ⟨ret_bool ?_, rfl⟩; rw [HD.out]; first | (simp [*]; done) | (simp [*]; omega) | (rw [← ht, Int.tmod_eq_emod_of_nonneg (by omega)]; simp [*]))
set_option maxHeartbeats 2000000 in
theorem array_no (I : Im) (r : Rest) (gp ap kp hp : Option Addr) (gc ac kc hc : Nat) (g : Int) (w : World) (h : g < 0 ∨ (I.gs.length : Int) ≤ g ∨ (I.addr.length : Int) ≤ g) :
    Calls Tryd.prog 59 #[.agg #[r.v0, .slice gp I.gs.length gc, .int .i64 I.sens, .int .i64 I.outs, .slice hp I.chans hc, r.v5, .slice ap I.addr.length ac, r.v7, r.v8, r.v9, r.v10, .slice kp I.code.length kc], .int .i64 g] w fun e w' => e = .returned (.bool false) ∧ Grew w w' := by
  go_enter Tryd.func59, Tryd.ntmps59
  go_upto_region 0 with fail
  refine wp_region_list ?_
  refine wpList_box_whole rfl _ _ rfl [r.v0, .slice gp I.gs.length gc, .int .i64 I.sens, .int .i64 I.outs, .slice hp I.chans hc, r.v5, .slice ap I.addr.length ac, r.v7, r.v8, r.v9, r.v10, .slice kp I.code.length kc] rfl fun V bx g1 => ?_
  simp only [zz1, zz2, zz3, Act.put, mixA, mixL, zz9, zz0, zz4, zz5, zz6]
  have HG := Lib.hid g1
  have x1 := bx.cell 1
  have x6 := bx.cell 6
  simp only [zz7, zz8] at x1 x6
  clear bx g1
  go_wp2
  all_goals go_ret
  all_goals first
    | exact ⟨rfl, HG.out⟩
    | (exfalso; omega)
set_option maxHeartbeats 2000000 in
theorem array_yes (I : Im) (r : Rest) (gp ap kp hp : Option Addr) (gc ac kc hc : Nat) (m : Nat) (w : World) (hm1 : m < I.gs.length) (hm2 : m < I.addr.length) (hg : RdL 4 glv w gp gc I.gs) :
    Calls Tryd.prog 59 #[.agg #[r.v0, .slice gp I.gs.length gc, .int .i64 I.sens, .int .i64 I.outs, .slice hp I.chans hc, r.v5, .slice ap I.addr.length ac, r.v7, r.v8, r.v9, r.v10, .slice kp I.code.length kc], .int .i64 (m : Int)] w fun e w' => e = .returned (.bool (decide (1 ≤ I.len m))) ∧ Grew w w' := by
  obtain ⟨gv, hgv⟩ : ∃ gv, I.gs[m]? = some gv := ⟨_, List.getElem?_eq_getElem hm1⟩
  have hlen : I.len m = gv.2.1 := by unfold Im.len; rw [List.getD_eq_getElem?_getD, hgv]; rfl
  obtain ⟨gb, go, rfl, hgc⟩ := hg.cells (by omega)
  have c1 : Atv ⟨gb, go + m * 4 + 1, none⟩ (.int .i64 gv.2.1) w := hgc m gv hgv 1 _ rfl
  have q1 : (m : Int) < I.gs.length := by omega
  have q2 : (m : Int) < I.addr.length := by omega
  rw [hlen]
  clear hgc hlen hgv
  go_enter Tryd.func59, Tryd.ntmps59
  go_upto_region 0 with fail
  refine wp_region_list ?_
  refine wpList_box_whole rfl _ _ rfl [r.v0, .slice (some ⟨gb, go, none⟩) I.gs.length gc, .int .i64 I.sens, .int .i64 I.outs, .slice hp I.chans hc, r.v5, .slice ap I.addr.length ac, r.v7, r.v8, r.v9, r.v10, .slice kp I.code.length kc] rfl fun V bx g1 => ?_
  simp only [zz1, zz2, zz3, Act.put, mixA, mixL, zz9, zz0, zz4, zz5, zz6]
  have HG := Lib.hid g1
  have d1 : V.cell? ⟨gb, go + m * 4 + 1, none⟩ = some (.int .i64 gv.2.1) := c1.grew g1
  have x1 := bx.cell 1
  have x6 := bx.cell 6
  simp only [zz7, zz8] at x1 x6
  clear bx g1 c1
  go_wp2
  all_goals go_ret
  exact ⟨rfl, HG.out⟩
theorem array_any (I : Im) (r : Rest) (gp ap kp hp : Option Addr) (gc ac kc hc : Nat) (g : Int) (h0 : 0 ≤ g) (v : Int) (w : World) (hg : RdL 4 glv w gp gc I.gs) :
    Calls Tryd.prog 59 #[.agg #[r.v0, .slice gp I.gs.length gc, .int .i64 I.sens, .int .i64 I.outs, .slice hp I.chans hc, r.v5, .slice ap I.addr.length ac, r.v7, r.v8, r.v9, r.v10, .slice kp I.code.length kc], .int .i64 g] w fun e w' => e = .returned (.bool (elt I g v).2) ∧ Grew w w' := by
  by_cases h : (I.gs.length : Int) ≤ g ∨ (I.addr.length : Int) ≤ g
  · rw [show elt I g v = (0, false) from by unfold elt; rw [if_pos h]]
    exact array_no I r gp ap kp hp gc ac kc hc g w (.inr h)
  · obtain ⟨m, rfl⟩ : ∃ m : Nat, g = (m : Int) := ⟨g.toNat, by omega⟩
    rw [show (elt I (m : Int) v).2 = decide (1 ≤ I.len m) from by unfold elt; rw [if_neg h]; rfl]
    exact array_yes I r gp ap kp hp gc ac kc hc m w (by omega) (by omega) hg
set_option maxHeartbeats 4000000 in
theorem trap_none (I : Im) (r : Rest) (gp ap kp hp : Option Addr) (gc ac kc hc : Nat) (s : St) (hs : s.Ok) (M : Nat) (w : World) (hI : ImRows M w I gp ap kp gc ac kc) (hIo : I.Ok) (hx : I.at s.pc = none) :
    Calls Tryd.prog 28 #[.agg (stv s).toArray, .agg #[r.v0, .slice gp I.gs.length gc, .int .i64 I.sens, .int .i64 I.outs, .slice hp I.chans hc, r.v5, .slice ap I.addr.length ac, r.v7, r.v8, r.v9, r.v10, .slice kp I.code.length kc]] w fun e w' => e = .returned (.bool true) ∧ Grew w w' := by
  rcases Im.at_none hx with h | h
  · clear hx
    have HS := Lib.hid hs
    have HIO := Lib.hid hIo
    have HIR := Lib.hid hI
    clear hs hIo hI
    go_enter Tryd.func28, Tryd.ntmps28
    go_upto_region 0 with fail
    refine wp_region_list ?_
    refine wpList_box_whole rfl _ _ rfl (stv s) rfl fun w1 hB1 g1 => ?_
    simp only [zz1, zz2, zz3, Act.put, mixA, mixL, zz9, zz0, zz4, zz5, zz6]
    refine wpList_box_whole rfl _ _ rfl [r.v0, .slice gp I.gs.length gc, .int .i64 I.sens, .int .i64 I.outs, .slice hp I.chans hc, r.v5, .slice ap I.addr.length ac, r.v7, r.v8, r.v9, r.v10, .slice kp I.code.length kc] rfl fun w2 bx g2 => ?_
    simp only [zz1, zz2, zz3, Act.put, mixA, mixL, zz9, zz0, zz4, zz5, zz6]
    have HG := Lib.hid (g1.trans g2)
    have HSB := Lib.hid (hB1.grew g2)
    generalize w1.heap.size = X at bx ⊢
    generalize w.heap.size = S at HSB ⊢
    clear g1 g2 hB1
    have x0 := bx.cell 0
    have x1 := bx.cell 1
    have x2 := bx.cell 2
    have x3 := bx.cell 3
    have x4 := bx.cell 4
    have x5 := bx.cell 5
    have x6 := bx.cell 6
    have x7 := bx.cell 7
    have x8 := bx.cell 8
    have x9 := bx.cell 9
    have x10 := bx.cell 10
    have x11 := bx.cell 11
    simp only [zz7, zz8] at x0 x1 x2 x3 x4 x5 x6 x7 x8 x9 x10 x11
    have s0 : w2.cell? ⟨S, 0, none⟩ = some (.int .i64 s.pc) := HSB.out.cell 0
    go_wp2
    go_ret
    exact ⟨rfl, HG.out⟩
  · have h0 : ¬ s.pc < 0 := by omega
    have h1 := h.2
    clear hx h
    have HS := Lib.hid hs
    have HIO := Lib.hid hIo
    have HIR := Lib.hid hI
    clear hs hIo hI
    go_enter Tryd.func28, Tryd.ntmps28
    go_upto_region 0 with fail
    refine wp_region_list ?_
    refine wpList_box_whole rfl _ _ rfl (stv s) rfl fun w1 hB1 g1 => ?_
    simp only [zz1, zz2, zz3, Act.put, mixA, mixL, zz9, zz0, zz4, zz5, zz6]
    refine wpList_box_whole rfl _ _ rfl [r.v0, .slice gp I.gs.length gc, .int .i64 I.sens, .int .i64 I.outs, .slice hp I.chans hc, r.v5, .slice ap I.addr.length ac, r.v7, r.v8, r.v9, r.v10, .slice kp I.code.length kc] rfl fun w2 bx g2 => ?_
    simp only [zz1, zz2, zz3, Act.put, mixA, mixL, zz9, zz0, zz4, zz5, zz6]
    have HG := Lib.hid (g1.trans g2)
    have HSB := Lib.hid (hB1.grew g2)
    generalize w1.heap.size = X at bx ⊢
    generalize w.heap.size = S at HSB ⊢
    clear g1 g2 hB1
    have x0 := bx.cell 0
    have x1 := bx.cell 1
    have x2 := bx.cell 2
    have x3 := bx.cell 3
    have x4 := bx.cell 4
    have x5 := bx.cell 5
    have x6 := bx.cell 6
    have x7 := bx.cell 7
    have x8 := bx.cell 8
    have x9 := bx.cell 9
    have x10 := bx.cell 10
    have x11 := bx.cell 11
    simp only [zz7, zz8] at x0 x1 x2 x3 x4 x5 x6 x7 x8 x9 x10 x11
    have s0 : w2.cell? ⟨S, 0, none⟩ = some (.int .i64 s.pc) := HSB.out.cell 0
    go_wp2
    go_ret
    exact ⟨rfl, HG.out⟩
set_option maxHeartbeats 4000000 in
theorem trap_inv (I : Im) (r : Rest) (gp ap kp hp : Option Addr) (gc ac kc hc : Nat) (s : St) (hs : s.Ok) (M : Nat) (w : World) (hI : ImRows M w I gp ap kp gc ac kc) (hIo : I.Ok) (x : Cd) (hx : I.at s.pc = some x) (hv : valid x = false) (hi : I16 x.i) :
    Calls Tryd.prog 28 #[.agg (stv s).toArray, .agg #[r.v0, .slice gp I.gs.length gc, .int .i64 I.sens, .int .i64 I.outs, .slice hp I.chans hc, r.v5, .slice ap I.addr.length ac, r.v7, r.v8, r.v9, r.v10, .slice kp I.code.length kc]] w fun e w' => e = .returned (.bool true) ∧ Grew w w' := by
  obtain ⟨m, hpc, hml, hmx⟩ := Im.at_some hx
  obtain ⟨kb, ko, rfl, hkc⟩ := hI.code.cells (by omega)
  have hk0 : Atv ⟨kb, ko + m * 5, none⟩ (.int .i64 x.op) w := hkc m x hmx 0 _ rfl
  have hk1 : Atv ⟨kb, ko + m * 5 + 1, none⟩ (.int .i64 x.a) w := hkc m x hmx 1 _ rfl
  have hk2 : Atv ⟨kb, ko + m * 5 + 2, none⟩ (.int .i64 x.b) w := hkc m x hmx 2 _ rfl
  have hk3 : Atv ⟨kb, ko + m * 5 + 3, none⟩ (.int .i64 x.c) w := hkc m x hmx 3 _ rfl
  have hk4 : Atv ⟨kb, ko + m * 5 + 4, none⟩ (.int .i16 x.i) w := hkc m x hmx 4 _ rfl
  have hm0 : ¬ ((m : Nat) : Int) < 0 := by omega
  have hm1 : ¬ (I.code.length : Int) ≤ ((m : Nat) : Int) := by omega
  have hm2 : ((m : Nat) : Int) < (I.code.length : Int) := by omega
  have HPC := Lib.hid hpc
  have HV := Lib.hid hv
  have HIX : Hid (-32768 ≤ x.i ∧ x.i ≤ 32767) := Lib.hid hi
  clear hx hv hi hpc hml hmx hkc
  have HS := Lib.hid hs
  have HIO := Lib.hid hIo
  have HIR := Lib.hid hI
  clear hs hIo hI
  go_enter Tryd.func28, Tryd.ntmps28
  go_upto_region 0 with fail
  refine wp_region_list ?_
  refine wpList_box_whole rfl _ _ rfl (stv s) rfl fun w1 hB1 g1 => ?_
  simp only [zz1, zz2, zz3, Act.put, mixA, mixL, zz9, zz0, zz4, zz5, zz6]
  refine wpList_box_whole rfl _ _ rfl [r.v0, .slice gp I.gs.length gc, .int .i64 I.sens, .int .i64 I.outs, .slice hp I.chans hc, r.v5, .slice ap I.addr.length ac, r.v7, r.v8, r.v9, r.v10, .slice (some ⟨kb, ko, none⟩) I.code.length kc] rfl fun w2 bx g2 => ?_
  simp only [zz1, zz2, zz3, Act.put, mixA, mixL, zz9, zz0, zz4, zz5, zz6]
  have HG := Lib.hid (g1.trans g2)
  have HSB := Lib.hid (hB1.grew g2)
  generalize w1.heap.size = X at bx ⊢
  generalize w.heap.size = S at HSB ⊢
  clear g1 g2 hB1
  have x0 := bx.cell 0
  have x1 := bx.cell 1
  have x2 := bx.cell 2
  have x3 := bx.cell 3
  have x4 := bx.cell 4
  have x5 := bx.cell 5
  have x6 := bx.cell 6
  have x7 := bx.cell 7
  have x8 := bx.cell 8
  have x9 := bx.cell 9
  have x10 := bx.cell 10
  have x11 := bx.cell 11
  simp only [zz7, zz8] at x0 x1 x2 x3 x4 x5 x6 x7 x8 x9 x10 x11
  have s0 : w2.cell? ⟨S, 0, none⟩ = some (.int .i64 ((m : Nat) : Int)) := by rw [← HPC.out]; exact HSB.out.cell 0
  have k0 := (show Atv _ _ w from hk0).grew HG.out
  have k1 := (show Atv _ _ w from hk1).grew HG.out
  have k2 := (show Atv _ _ w from hk2).grew HG.out
  have k3 := (show Atv _ _ w from hk3).grew HG.out
  have k4 := (show Atv _ _ w from hk4).grew HG.out
  go_wp2_with (go_at_call 57; (with_reducible refine (rvalid_is x _ false HV.out HIX.out).mono ?_); rintro e w3 ⟨rfl, gv⟩; clear k0 k1 k2 k3 k4; clear x0 x1 x2 x3 x4 x5 x6 x7 x8 x9 x10 x11; clear s0; replace bx := bx.grew gv; replace HSB := Lib.hid (HSB.out.grew gv); replace HG := Lib.hid (HG.out.trans gv); have x0 := bx.cell 0; have x1 := bx.cell 1; have x2 := bx.cell 2; have x3 := bx.cell 3; have x4 := bx.cell 4; have x5 := bx.cell 5; have x6 := bx.cell 6; have x7 := bx.cell 7; have x8 := bx.cell 8; have x9 := bx.cell 9; have x10 := bx.cell 10; have x11 := bx.cell 11; simp only [zz7, zz8] at x0 x1 x2 x3 x4 x5 x6 x7 x8 x9 x10 x11; have s0 : w3.cell? ⟨S, 0, none⟩ = some (.int .i64 ((m : Nat) : Int)) := (by rw [← HPC.out]; exact HSB.out.cell 0); have k0 := (show Atv _ _ w from hk0).grew HG.out; have k1 := (show Atv _ _ w from hk1).grew HG.out; have k2 := (show Atv _ _ w from hk2).grew HG.out; have k3 := (show Atv _ _ w from hk3).grew HG.out; have k4 := (show Atv _ _ w from hk4).grew HG.out; clear gv)
  go_ret
  exact ⟨rfl, HG.out⟩
theorem lf14 (k a b d : Nat) (i : Int) (s : St) (I : Im) (h : ((k : Int) == 14) = true) : (!dat i) = !(opnd ⟨k, a, b, d, i⟩ s I).2 := by
  obtain rfl : k = 14 := by have := eq_of_beq h; omega
  rfl
theorem lf15 (k a b d : Nat) (i : Int) (s : St) (I : Im) (h : ((k : Int) == 15) = true) : (!dat i) = !(opnd ⟨k, a, b, d, i⟩ s I).2 := by
  obtain rfl : k = 15 := by have := eq_of_beq h; omega
  rfl
theorem lf27 (k a b d : Nat) (i : Int) (s : St) (I : Im) (h : ((k : Int) == 27) = true) : (!dat i) = !(opnd ⟨k, a, b, d, i⟩ s I).2 := by
  obtain rfl : k = 27 := by have := eq_of_beq h; omega
  rfl
theorem lf16 (k a b d : Nat) (i : Int) (s : St) (I : Im) (h : ((k : Int) == 16) = true) : (!dat (s.reg b)) = !(opnd ⟨k, a, b, d, i⟩ s I).2 := by
  obtain rfl : k = 16 := by have := eq_of_beq h; omega
  rfl
theorem lf17 (k a b d : Nat) (i : Int) (s : St) (I : Im) (h : ((k : Int) == 17) = true) : (!dat (s.reg b)) = !(opnd ⟨k, a, b, d, i⟩ s I).2 := by
  obtain rfl : k = 17 := by have := eq_of_beq h; omega
  rfl
theorem lf28 (k a b d : Nat) (i : Int) (s : St) (I : Im) (h : ((k : Int) == 28) = true) : (!dat (s.reg a)) = !(opnd ⟨k, a, b, d, i⟩ s I).2 := by
  obtain rfl : k = 28 := by have := eq_of_beq h; omega
  rfl
theorem lf18 (k a b d : Nat) (i : Int) (s : St) (I : Im) (h : ((k : Int) == 18) = true) : (!(elt I i (s.reg b)).2) = !(opnd ⟨k, a, b, d, i⟩ s I).2 := by
  obtain rfl : k = 18 := by have := eq_of_beq h; omega
  rfl
theorem lf23 (k a b d : Nat) (i : Int) (s : St) (I : Im) (_ : k = 18 ∨ k = 23 ∨ k = 24 ∨ k = 26 → 0 ≤ i) (h : ((k : Int) == 23) = true) : (decide (I.sens ≤ i)) = !(opnd ⟨k, a, b, d, i⟩ s I).2 := by
  obtain rfl : k = 23 := by have := eq_of_beq h; omega
  show _ = !(decide (i < I.sens))
  by_cases h : i < I.sens <;> simp [h] <;> omega
theorem lf26 (k a b d : Nat) (i : Int) (s : St) (I : Im) (_ : k = 18 ∨ k = 23 ∨ k = 24 ∨ k = 26 → 0 ≤ i) (h : ((k : Int) == 26) = true) : (decide (I.outs ≤ i)) = !(opnd ⟨k, a, b, d, i⟩ s I).2 := by
  obtain rfl : k = 26 := by have := eq_of_beq h; omega
  show _ = !(decide (i < I.outs))
  by_cases h : i < I.outs <;> simp [h] <;> omega
theorem lf24 (k a b d : Nat) (i : Int) (s : St) (I : Im) (_ : k = 18 ∨ k = 23 ∨ k = 24 ∨ k = 26 → 0 ≤ i) (h : ((k : Int) == 24) = true) : (decide ((I.chans : Int) ≤ i)) = !(opnd ⟨k, a, b, d, i⟩ s I).2 := by
  obtain rfl : k = 24 := by have := eq_of_beq h; omega
  show _ = !(decide (i < (I.chans : Int)))
  by_cases h : i < (I.chans : Int) <;> simp [h] <;> omega
theorem lfn (k a b d : Nat) (i : Int) (s : St) (I : Im) (h0 : k = 18 ∨ k = 23 ∨ k = 24 ∨ k = 26 → 0 ≤ i) (hs : i < 0) {c : Int} (h : ((k : Int) == c) = true) (hc : c = 23 ∨ c = 24 ∨ c = 26 := by decide) : true = !(opnd ⟨k, a, b, d, i⟩ s I).2 := by
  have h1 := eq_of_beq h
  exact absurd hs (by have := h0 (by omega); omega)
theorem opnd_rest (k a b d : Nat) (i : Int) (s : St) (I : Im) (h : [14, 15, 27, 16, 17, 28, 18, 23, 24, 26].all (fun c : Int => (k : Int) != c) = true) : (opnd ⟨k, a, b, d, i⟩ s I).2 = true := by
  simp only [List.all_cons, List.all_nil, Bool.and_true, Bool.and_eq_true, bne_iff_ne, ne_eq] at h
  unfold opnd
  simp only [h, false_or, if_false]
set_option maxHeartbeats 8000000 in
theorem trap_val (I : Im) (r : Rest) (gp ap kp hp : Option Addr) (gc ac kc hc : Nat) (s : St) (hs : s.Ok) (M : Nat) (w : World) (hI : ImRows M w I gp ap kp gc ac kc) (hIo : I.Ok) (k a b d : Nat) (i : Int) (hx : I.at s.pc = some ⟨k, a, b, d, i⟩) (hv : valid ⟨k, a, b, d, i⟩ = true) (hi : I16 i) (ha : a < 8) (hb : b < 8) (hi0 : k = 18 ∨ k = 23 ∨ k = 24 ∨ k = 26 → 0 ≤ i) :
    Calls Tryd.prog 28 #[.agg (stv s).toArray, .agg #[r.v0, .slice gp I.gs.length gc, .int .i64 I.sens, .int .i64 I.outs, .slice hp I.chans hc, r.v5, .slice ap I.addr.length ac, r.v7, r.v8, r.v9, r.v10, .slice kp I.code.length kc]] w fun e w' => e = .returned (.bool (!(opnd ⟨k, a, b, d, i⟩ s I).2)) ∧ Grew w w' := by
  obtain ⟨x, hxe⟩ : ∃ x : Cd, x = ⟨k, a, b, d, i⟩ := ⟨_, rfl⟩
  rw [← hxe] at hx hv
  obtain ⟨m, hpc, hml, hmx⟩ := Im.at_some hx
  obtain ⟨kb, ko, rfl, hkc⟩ := hI.code.cells (by omega)
  have hk0 : Atv ⟨kb, ko + m * 5, none⟩ (.int .i64 x.op) w := hkc m x hmx 0 _ rfl
  have hk1 : Atv ⟨kb, ko + m * 5 + 1, none⟩ (.int .i64 x.a) w := hkc m x hmx 1 _ rfl
  have hk2 : Atv ⟨kb, ko + m * 5 + 2, none⟩ (.int .i64 x.b) w := hkc m x hmx 2 _ rfl
  have hk3 : Atv ⟨kb, ko + m * 5 + 3, none⟩ (.int .i64 x.c) w := hkc m x hmx 3 _ rfl
  have hk4 : Atv ⟨kb, ko + m * 5 + 4, none⟩ (.int .i16 x.i) w := hkc m x hmx 4 _ rfl
  have hm0 : ¬ ((m : Nat) : Int) < 0 := by omega
  have hm1 : ¬ (I.code.length : Int) ≤ ((m : Nat) : Int) := by omega
  have hm2 : ((m : Nat) : Int) < (I.code.length : Int) := by omega
  have HPC := Lib.hid hpc
  subst hxe
  obtain ⟨hi1, hi2⟩ := hi
  have HIX : Hid (-32768 ≤ i ∧ i ≤ 32767) := Lib.hid ⟨hi1, hi2⟩
  have HV := Lib.hid hv
  have HI0 : Hid (k = 18 ∨ k = 23 ∨ k = 24 ∨ k = 26 → 0 ≤ i) := Lib.hid hi0
  have ha8 : (a : Int) < 8 := by omega
  have hb8 : (b : Int) < 8 := by omega
  clear hx hv hpc hml hmx hkc hi0
  have HS := Lib.hid hs
  have HIO := Lib.hid hIo
  have HIR := Lib.hid hI
  clear hs hIo hI
  go_enter Tryd.func28, Tryd.ntmps28
  go_upto_region 0 with fail
  refine wp_region_list ?_
  refine wpList_box_whole rfl _ _ rfl (stv s) rfl fun w1 hB1 g1 => ?_
  simp only [zz1, zz2, zz3, Act.put, mixA, mixL, zz9, zz0, zz4, zz5, zz6]
  refine wpList_box_whole rfl _ _ rfl [r.v0, .slice gp I.gs.length gc, .int .i64 I.sens, .int .i64 I.outs, .slice hp I.chans hc, r.v5, .slice ap I.addr.length ac, r.v7, r.v8, r.v9, r.v10, .slice (some ⟨kb, ko, none⟩) I.code.length kc] rfl fun w2 bx g2 => ?_
  simp only [zz1, zz2, zz3, Act.put, mixA, mixL, zz9, zz0, zz4, zz5, zz6]
  have HG := Lib.hid (g1.trans g2)
  have HSB := Lib.hid (hB1.grew g2)
  generalize w1.heap.size = X at bx ⊢
  generalize w.heap.size = S at HSB ⊢
  clear g1 g2 hB1
  have x0 := bx.cell 0
  have x1 := bx.cell 1
  have x2 := bx.cell 2
  have x3 := bx.cell 3
  have x4 := bx.cell 4
  have x5 := bx.cell 5
  have x6 := bx.cell 6
  have x7 := bx.cell 7
  have x8 := bx.cell 8
  have x9 := bx.cell 9
  have x10 := bx.cell 10
  have x11 := bx.cell 11
  simp only [zz7, zz8] at x0 x1 x2 x3 x4 x5 x6 x7 x8 x9 x10 x11
  have s0 : w2.cell? ⟨S, 0, none⟩ = some (.int .i64 ((m : Nat) : Int)) := by rw [← HPC.out]; exact HSB.out.cell 0
  have k0 := (show Atv _ _ w from hk0).grew HG.out
  have k1 := (show Atv _ _ w from hk1).grew HG.out
  have k2 := (show Atv _ _ w from hk2).grew HG.out
  have k3 := (show Atv _ _ w from hk3).grew HG.out
  have k4 := (show Atv _ _ w from hk4).grew HG.out
  go_upto_region 3 with (go_at_call 57; (with_reducible refine (rvalid_is _ _ true HV.out HIX.out).mono ?_); rintro e w3 ⟨rfl, gv⟩; clear k0 k1 k2 k3 k4; clear x0 x1 x2 x3 x4 x5 x6 x7 x8 x9 x10 x11; clear s0; replace bx := bx.grew gv; replace HSB := Lib.hid (HSB.out.grew gv); replace HG := Lib.hid (HG.out.trans gv); have x0 := bx.cell 0; have x1 := bx.cell 1; have x2 := bx.cell 2; have x3 := bx.cell 3; have x4 := bx.cell 4; have x5 := bx.cell 5; have x6 := bx.cell 6; have x7 := bx.cell 7; have x8 := bx.cell 8; have x9 := bx.cell 9; have x10 := bx.cell 10; have x11 := bx.cell 11; simp only [zz7, zz8] at x0 x1 x2 x3 x4 x5 x6 x7 x8 x9 x10 x11; have s0 : w3.cell? ⟨S, 0, none⟩ = some (.int .i64 ((m : Nat) : Int)) := (by rw [← HPC.out]; exact HSB.out.cell 0); have k0 := (show Atv _ _ w from hk0).grew HG.out; have k1 := (show Atv _ _ w from hk1).grew HG.out; have k2 := (show Atv _ _ w from hk2).grew HG.out; have k3 := (show Atv _ _ w from hk3).grew HG.out; have k4 := (show Atv _ _ w from hk4).grew HG.out; clear gv)
  have r1 : w3.cell? ⟨S, 1 + a, none⟩ = some (.int .i16 (s.reg a)) := by rw [HSB.out.cell]; exact stv_at HS.out (by omega)
  have r2 : w3.cell? ⟨S, 1 + b, none⟩ = some (.int .i16 (s.reg b)) := by rw [HSB.out.cell]; exact stv_at HS.out (by omega)
  go_upto_region 5 with fail
  generalize hW : World.alloc _ _ = V
  have bc : Blk w3.heap.size [.int .i64 k, .int .i64 a, .int .i64 b, .int .i64 d, .int .i16 i] 72 V := by subst hW; exact Blk.new w3 _ _
  have g4 : Grew w3 V := by subst hW; exact (Grew.refl _).alloc _
  clear hW
  clear k0 k1 k2 k3 k4 s0 r1 r2 x0 x1 x2 x3 x4 x5 x6 x7 x8 x9 x10 x11
  replace bx := bx.grew g4
  replace HSB := Lib.hid (HSB.out.grew g4)
  have HGA := Lib.hid (HG.out.trans g4)
  generalize w3.heap.size = CB at bc ⊢
  have x0 := bx.cell 0
  have x1 := bx.cell 1
  have x2 := bx.cell 2
  have x3 := bx.cell 3
  have x4 := bx.cell 4
  have x5 := bx.cell 5
  have x6 := bx.cell 6
  have x7 := bx.cell 7
  have x8 := bx.cell 8
  have x9 := bx.cell 9
  have x10 := bx.cell 10
  have x11 := bx.cell 11
  simp only [zz7, zz8] at x0 x1 x2 x3 x4 x5 x6 x7 x8 x9 x10 x11
  have r1 : V.cell? ⟨S, 1 + a, none⟩ = some (.int .i16 (s.reg a)) := by rw [HSB.out.cell]; exact stv_at HS.out (by omega)
  have r2 : V.cell? ⟨S, 1 + b, none⟩ = some (.int .i16 (s.reg b)) := by rw [HSB.out.cell]; exact stv_at HS.out (by omega)
  have c0 := bc.cell 0
  have c1 := bc.cell 1
  have c2 := bc.cell 2
  have c3 := bc.cell 3
  have c4 := bc.cell 4
  simp only [zz7, zz8] at c0 c1 c2 c3 c4
  obtain ⟨ra1, ra2⟩ : -32768 ≤ s.reg a ∧ s.reg a ≤ 32767 := HS.out.reg a
  obtain ⟨rb1, rb2⟩ : -32768 ≤ s.reg b ∧ s.reg b ≤ 32767 := HS.out.reg b
  clear g4 bx bc HG
  rcases Int.lt_or_le i 0 with hsg | hsg
  all_goals try (have hsg2 : ¬ i < 0 := by omega)
  all_goals go_wp2_with (first
    | (go_at_call 58; (with_reducible refine (rdata_any _ _).mono ?_); rintro e w5 ⟨rfl, h5⟩; subst w5)
    | (go_at_call 59; (with_reducible refine (array_any I r gp ap (some ⟨kb, ko, none⟩) hp gc ac kc hc i (HI0.out (.inl (by have h9 := eq_of_beq (by assumption : ((k : Int) == 18) = true); omega))) (s.reg b) _ (HIR.out.grew HGA.out).gs).mono ?_); rintro e w5 ⟨rfl, g5⟩; replace HGA := Lib.hid (HGA.out.trans g5); clear g5))
  all_goals go_ret
  all_goals refine ⟨ret_bool ?_, HGA.out⟩
  all_goals rename_i hl
  all_goals first
    | exact lf14 k a b d i s I hl
    | exact lf15 k a b d i s I hl
    | exact lf27 k a b d i s I hl
    | exact lf16 k a b d i s I hl
    | exact lf17 k a b d i s I hl
    | exact lf28 k a b d i s I hl
    | exact lf18 k a b d i s I hl
    | exact lf23 k a b d i s I HI0.out hl
    | exact lf26 k a b d i s I HI0.out hl
    | exact lf24 k a b d i s I HI0.out hl
    | exact lfn k a b d i s I HI0.out hsg hl
    | exact (congrArg Bool.not (opnd_rest k a b d i s I (by simp [bne, *]))).symm
end Go.Proofs.YtbhglpiiabpdjaaDoor
namespace Go.Proofs.YtbhglpiiabpdjaaDoor
open Go Go.RowKit Go.IntWalk Go.WideShapes
set_option linter.unusedSimpArgs false
set_option linter.unusedVariables false
set_option maxRecDepth 60000
section
variable {dst : Option Tmp} {ty : TypeId} {pos : String} {after : Array Edge} {g : Option (Nat × Bool)} {a : Act} {w : World} {T : Value → World → Prop}
end
/-- Of each operation that may come up: it runs, and what is left runs behind it. -/
def AllH (P : Program) (ops : Array Oper) (Q : Exit → Act → World → Prop) (S : World → Prop) (fuel : Nat) (listed : Array Bool) (a : Act) (w : World) : List Nat → Prop
  | [] => True
  | i :: r => (∃ o, ops[i]? = some o ∧ o.guard = none ∧ Runs P o a w fun v w' => S w' ∧ wpAnyH P .any ops Q S fuel (listed.setIfInBounds i true) (a.put o.dst v) w') ∧ AllH P ops Q S fuel listed a w r
theorem AllH.at {P : Program} {ops : Array Oper} {Q : Exit → Act → World → Prop} {S : World → Prop} {fuel : Nat} {listed : Array Bool} {a : Act} {w : World} : ∀ {rs : List Nat}, AllH P ops Q S fuel listed a w rs → ∀ i ∈ rs, ∃ o, ops[i]? = some o ∧ o.guard = none ∧ Runs P o a w fun v w' => S w' ∧ wpAnyH P .any ops Q S fuel (listed.setIfInBounds i true) (a.put o.dst v) w'
  | _ :: _, h, i, hi => by
    rcases List.mem_cons.1 hi with rfl | hi
    · exact h.1
    · exact AllH.at h.2 i hi
theorem wpAnyH_go {P : Program} {ops : Array Oper} {Q : Exit → Act → World → Prop} {S : World → Prop} {fuel : Nat} {listed : Array Bool} {a : Act} {w : World} (rs : List Nat) (hr : Region.ready .any ops listed = rs) (hne : rs ≠ []) (h : AllH P ops Q S fuel listed a w rs) : wpAnyH P .any ops Q S (fuel + 1) listed a w := by
  refine wpAnyH_all hr hne fun i hi => ?_
  obtain ⟨o, ho, hg, hr⟩ := h.at i hi
  unfold wpOp
  simp only [ho]
  rw [if_pos (by simp [Region.wanted, hg])]
  exact .inl (hr _ _ fun _ _ h => h)
/-- A piece of code, with what holds behind it. -/
theorem cut_code {P : Program} {c : Code} {Q : Exit → Act → World → Prop} {a : Act} {w : World} (F : Act → Act → World → Prop) (h1 : c.wp P (fun e a' w' => e = .normal ∧ F a a' w') a w) (h2 : ∀ a' w', F a a' w' → Q .normal a' w') : c.wp P Q a w :=
  Code.wp_mono (fun e a' w' ⟨he, h⟩ => by subst he; exact h2 a' w' h) h1
theorem en_trp : Enters Tryd.prog 28 := fun args w => by go_simp
theorem en_ren : Enters Tryd.prog 30 := fun args w => by go_simp
theorem en_rwr : Enters Tryd.prog 31 := fun args w => by go_simp
theorem en_rti : Enters Tryd.prog 32 := fun args w => by go_simp
theorem en_spe : Enters Tryd.prog 29 := fun args w => by go_simp
theorem en_ld : Enters Tryd.prog 34 := fun args w => by go_simp
theorem en_sto : Enters Tryd.prog 35 := fun args w => by go_simp
theorem en_rd : Enters Tryd.prog 37 := fun args w => by go_simp
theorem en_rix : Enters Tryd.prog 36 := fun args w => by go_simp
theorem en_rbn : Enters Tryd.prog 43 := fun args w => by go_simp
theorem en_run : Enters Tryd.prog 33 := fun args w => by go_simp
theorem trap_any (I : Im) (r : Rest) (gp ap kp hp : Option Addr) (gc ac kc hc : Nat) (s : St) (hs : s.Ok) (M : Nat) (w : World) (hI : ImRows M w I gp ap kp gc ac kc) (hIo : I.Ok) : Calls Tryd.prog 28 #[.agg (stv s).toArray, .agg #[r.v0, .slice gp I.gs.length gc, .int .i64 I.sens, .int .i64 I.outs, .slice hp I.chans hc, r.v5, .slice ap I.addr.length ac, r.v7, r.v8, r.v9, r.v10, .slice kp I.code.length kc]] w fun e w' => e = .returned (.bool (trapd I s)) ∧ Grew w w' := by
  unfold trapd
  cases hx : I.at s.pc with
  | none => exact trap_none I r gp ap kp hp gc ac kc hc s hs M w hI hIo hx
  | some x =>
    dsimp only
    obtain ⟨m, _, _, hm⟩ := Im.at_some hx
    have hi := hIo.code x (List.mem_of_getElem? hm)
    cases hv : valid x with
    | false => exact trap_inv I r gp ap kp hp gc ac kc hc s hs M w hI hIo x hx hv hi
    | true =>
      have hlo := ((valid_iff x).1 hv).2.2.2.2.2.1
      obtain ⟨k, a, b, d, hk1, hk, h0, h1, h2, hxe⟩ := valid_shape hv
      generalize x.i = i at hxe hi hlo
      subst hxe
      rw [show (!true || !(opnd ⟨k, a, b, d, i⟩ s I).2) = !(opnd ⟨k, a, b, d, i⟩ s I).2 from rfl]
      refine trap_val I r gp ap kp hp gc ac kc hc s hs M w hI hIo k a b d i hx hv hi h0 h1 fun h => ?_
      rcases h with rfl | rfl | rfl | rfl
      · have := ins_lo ⟨18, by decide⟩ (by decide); simp only at this hlo; omega
      · have := ins_lo ⟨23, by decide⟩ (by decide); simp only at this hlo; omega
      · have := ins_lo ⟨24, by decide⟩ (by decide); simp only at this hlo; omega
      · have := ins_lo ⟨26, by decide⟩ (by decide); simp only at this hlo; omega
theorem trap_is (I : Im) (r : Rest) (gp ap kp hp : Option Addr) (gc ac kc hc : Nat) (s : St) (hs : s.Ok) (M : Nat) (w : World) (hI : ImRows M w I gp ap kp gc ac kc) (hIo : I.Ok) (t : Bool) (ht : trapd I s = t) : Calls Tryd.prog 28 #[.agg (stv s).toArray, .agg #[r.v0, .slice gp I.gs.length gc, .int .i64 I.sens, .int .i64 I.outs, .slice hp I.chans hc, r.v5, .slice ap I.addr.length ac, r.v7, r.v8, r.v9, r.v10, .slice kp I.code.length kc]] w fun e w' => e = .returned (.bool t) ∧ Grew w w' := ht ▸ trap_any I r gp ap kp hp gc ac kc hc s hs M w hI hIo
set_option maxHeartbeats 4000000 in
theorem rstep_trap (I : Im) (r : Rest) (gp ap kp hp : Option Addr) (gc ac kc hc : Nat) (s : St) (hs : s.Ok) (W : Wd) (hWo : W.Ok) (N q : Nat) (S : Nat → Prop) (w : World) (hbus : Bus N w q W S) (hI : ImRows N w I gp ap kp gc ac kc) (hIo : I.Ok) (hl : W.cs.length ≤ 70000) (hN : N ≤ w.heap.size) (ht : trapd I s = true) :
    Calls Tryd.prog 15 #[.agg (stv s).toArray, .agg #[r.v0, .slice gp I.gs.length gc, .int .i64 I.sens, .int .i64 I.outs, .slice hp I.chans hc, r.v5, .slice ap I.addr.length ac, r.v7, r.v8, r.v9, r.v10, .slice kp I.code.length kc], .pointer (some ⟨q, 0, none⟩)] w fun e w' => e = .returned (.tuple #[.agg (stv s).toArray, .int .i64 (5)]) ∧ ∃ S', Bus N w' q (W) S' ∧ Moved No S S' w w' := by
  have HS := Lib.hid hs
  have HWO := Lib.hid hWo
  have HIO := Lib.hid hIo
  have HIR := Lib.hid hI
  have HBU := Lib.hid hbus
  have HL := Lib.hid hl
  have HN := Lib.hid hN
  clear hs hWo hIo hI hbus hl hN
  go_enter Tryd.func15, Tryd.ntmps15
  go_upto_region 0 with fail
  refine wp_region_list ?_
  refine wpList_box_whole rfl _ _ rfl (stv s) rfl fun w1 hB1 g1 => ?_
  simp only [zz1, zz2, zz3, Act.put, mixA, mixL, zz9, zz0, zz4, zz5, zz6]
  refine wpList_box_whole rfl _ _ rfl [r.v0, .slice gp I.gs.length gc, .int .i64 I.sens, .int .i64 I.outs, .slice hp I.chans hc, r.v5, .slice ap I.addr.length ac, r.v7, r.v8, r.v9, r.v10, .slice kp I.code.length kc] rfl fun w2 bx g2 => ?_
  simp only [zz1, zz2, zz3, Act.put, mixA, mixL, zz9, zz0, zz4, zz5, zz6]
  refine alloc_st rfl rfl fun w3 hO g3 => ?_
  simp only [zz1, zz2, zz3, Act.put, mixA, mixL, zz9, zz0, zz4, zz5, zz6]
  have HG := Lib.hid ((g1.trans g2).trans g3)
  have HSB := Lib.hid ((hB1.grew g2).grew g3)
  have HBX := Lib.hid (bx.grew g3)
  have HO := Lib.hid hO
  have HAO : Hid (w.heap.size ≠ w2.heap.size) := Lib.hid (by have := (hB1.grew g2).lt; omega)
  have HOL : Hid (w.heap.size ≤ w2.heap.size) := Lib.hid (g1.trans g2).sz
  generalize w2.heap.size = O at HO hO HAO HOL ⊢
  generalize w1.heap.size = X at HBX bx ⊢
  have HAL : Hid (w.heap.size ≤ w.heap.size) := Lib.hid (Nat.le_refl _)
  obtain ⟨A, hA⟩ : ∃ A, A = w.heap.size := ⟨_, rfl⟩
  rw [← hA] at HSB HAO ⊢
  replace HAL : Hid (w.heap.size ≤ A) := Lib.hid (Nat.le_of_eq hA.symm)
  clear g1 g2 g3 hB1 bx hO hA
  go_upto_region 1 with fail
  refine wp_region_list ?_
  refine wpList_runs rfl (some 16) rfl (runs_ldm 33 (ev rfl) HSB.out.range Tryd.underlying33 rfl (by rw [sizeS, stv_len HS.out]) ?_)
  simp only [zz1, zz2, zz3, Act.put, mixA, mixL, zz9, zz0, zz4, zz5, zz6]
  refine wpList_runs rfl (some 17) rfl (runs_ldm 28 (ev rfl) HBX.out.range Tryd.underlying28 rfl (by rw [sizeI]; rfl) ?_)
  simp only [zz1, zz2, zz3, Act.put, mixA, mixL, zz9, zz0, zz4, zz5, zz6]
  refine wpList_runs rfl (some 18) rfl (runs_c2 en_trp (ev rfl) (ev rfl) ((trap_is I r gp ap kp hp gc ac kc hc s HS.out N _ (HIR.out.grew HG.out) HIO.out true ht).mono ?_))
  rintro e w4 ⟨rfl, g4⟩
  refine ⟨_, rfl, ?_⟩
  simp only [zz1, zz2, zz3, Act.put, mixA, mixL, zz9, zz0, zz4, zz5, zz6]
  replace HG := Lib.hid (HG.out.trans g4)
  replace HSB := Lib.hid (HSB.out.grew g4)
  replace HBX := Lib.hid (HBX.out.grew g4)
  replace HO := Lib.hid (HO.out.grew g4)
  clear g4
  go_upto_region 2 with fail
  refine wp_region_list ?_
  refine load_st Tryd.underlying33 sizeS rfl (.tmp 3) rfl A rfl s HS.out HSB.out ?_
  simp only [zz1, zz2, zz3, Act.put, mixA, mixL, zz9, zz0, zz4, zz5, zz6]
  refine store_st sizeS rfl (.tmp 6) (.tmp 19) rfl O rfl s zst HS.out zst_ok rfl (HO.out) fun w9 hB9 c9 => ?_
  simp only [zz1, zz2, zz3, Act.put, mixA, mixL, zz9, zz0, zz4, zz5, zz6]
  refine wpList_runs rfl (some 7) rfl (runs_mva (v := .int .i64 5) rfl ?_)
  simp only [zz1, zz2, zz3, Act.put, mixA, mixL, zz9, zz0, zz4, zz5, zz6]
  have hg9 : Grew w w9 := grew_lift HG.out c9 fun k hk => by have e : k = O := hk; have := HOL.out; omega
  go_wp2
  refine ret_st Tryd.results15 HS.out rfl rfl hB9 ?_
  exact ⟨rfl, S, HBU.out.grew hg9, Moved.of_grew _ _ hg9⟩
set_option maxHeartbeats 4000000 in
theorem rstep_poor (I : Im) (r : Rest) (gp ap kp hp : Option Addr) (gc ac kc hc : Nat) (s : St) (hs : s.Ok) (W : Wd) (hWo : W.Ok) (N q : Nat) (S : Nat → Prop) (w : World) (hbus : Bus N w q W S) (hI : ImRows N w I gp ap kp gc ac kc) (hIo : I.Ok) (hl : W.cs.length ≤ 70000) (hN : N ≤ w.heap.size) (k a b d : Nat) (i : Int) (hx : I.at s.pc = some ⟨k, a, b, d, i⟩) (hv : valid ⟨k, a, b, d, i⟩ = true) (hi : I16 i) (ha : a < 8) (hb : b < 8) (hd : d < 8) (ho : (opnd ⟨k, a, b, d, i⟩ s I).2 = true) (hsp : (spend W (k : Int)).okb = false) :
    Calls Tryd.prog 15 #[.agg (stv s).toArray, .agg #[r.v0, .slice gp I.gs.length gc, .int .i64 I.sens, .int .i64 I.outs, .slice hp I.chans hc, r.v5, .slice ap I.addr.length ac, r.v7, r.v8, r.v9, r.v10, .slice kp I.code.length kc], .pointer (some ⟨q, 0, none⟩)] w fun e w' => e = .returned (.tuple #[.agg (stv s).toArray, .int .i64 (4)]) ∧ ∃ S', Bus N w' q (spend W (k : Int)) S' ∧ Moved No S S' w w' := by
  have HSP := Lib.hid hsp
  clear hsp
  have hxx := hx
  obtain ⟨x, hxe⟩ : ∃ x : Cd, x = ⟨k, a, b, d, i⟩ := ⟨_, rfl⟩
  have hTR : trapd I s = false := by
    unfold trapd; rw [hx]; dsimp only; rw [hv, ho]; rfl
  rw [← hxe] at hx
  obtain ⟨m, hpc, hml, hmx⟩ := Im.at_some hx
  obtain ⟨kb, ko, rfl, hkc⟩ := hI.code.cells (by omega)
  have hk0 : Atv ⟨kb, ko + m * 5, none⟩ (.int .i64 x.op) w := hkc m x hmx 0 _ rfl
  have hk1 : Atv ⟨kb, ko + m * 5 + 1, none⟩ (.int .i64 x.a) w := hkc m x hmx 1 _ rfl
  have hk2 : Atv ⟨kb, ko + m * 5 + 2, none⟩ (.int .i64 x.b) w := hkc m x hmx 2 _ rfl
  have hk3 : Atv ⟨kb, ko + m * 5 + 3, none⟩ (.int .i64 x.c) w := hkc m x hmx 3 _ rfl
  have hk4 : Atv ⟨kb, ko + m * 5 + 4, none⟩ (.int .i16 x.i) w := hkc m x hmx 4 _ rfl
  have hm0 : ¬ ((m : Nat) : Int) < 0 := by omega
  have hm1 : ¬ (I.code.length : Int) ≤ ((m : Nat) : Int) := by omega
  have hm2 : ((m : Nat) : Int) < (I.code.length : Int) := by omega
  have HPC := Lib.hid hpc
  have hm9 : (m : Int) + 1 ≤ 9223372036854775807 := by have := hIo.lc; omega
  subst hxe
  obtain ⟨hi1, hi2⟩ := hi
  have HX := Lib.hid hxx
  have HV := Lib.hid hv
  have HOP := Lib.hid ho
  have HTR := Lib.hid hTR
  have ha8 : (a : Int) < 8 := by omega
  have hb8 : (b : Int) < 8 := by omega
  have hd8 : (d : Int) < 8 := by omega
  clear hx hxx hv ho hTR hpc hml hmx hkc
  have HS := Lib.hid hs
  have HWO := Lib.hid hWo
  have HIO := Lib.hid hIo
  have HIR := Lib.hid hI
  have HBU := Lib.hid hbus
  have HL := Lib.hid hl
  have HN := Lib.hid hN
  clear hs hWo hIo hI hbus hl hN
  go_enter Tryd.func15, Tryd.ntmps15
  go_upto_region 0 with fail
  refine wp_region_list ?_
  refine wpList_box_whole rfl _ _ rfl (stv s) rfl fun w1 hB1 g1 => ?_
  simp only [zz1, zz2, zz3, Act.put, mixA, mixL, zz9, zz0, zz4, zz5, zz6]
  refine wpList_box_whole rfl _ _ rfl [r.v0, .slice gp I.gs.length gc, .int .i64 I.sens, .int .i64 I.outs, .slice hp I.chans hc, r.v5, .slice ap I.addr.length ac, r.v7, r.v8, r.v9, r.v10, .slice (some ⟨kb, ko, none⟩) I.code.length kc] rfl fun w2 bx g2 => ?_
  simp only [zz1, zz2, zz3, Act.put, mixA, mixL, zz9, zz0, zz4, zz5, zz6]
  refine alloc_st rfl rfl fun w3 hO g3 => ?_
  simp only [zz1, zz2, zz3, Act.put, mixA, mixL, zz9, zz0, zz4, zz5, zz6]
  have HG := Lib.hid ((g1.trans g2).trans g3)
  have HSB := Lib.hid ((hB1.grew g2).grew g3)
  have HBX := Lib.hid (bx.grew g3)
  have HO := Lib.hid hO
  have HAO : Hid (w.heap.size ≠ w2.heap.size) := Lib.hid (by have := (hB1.grew g2).lt; omega)
  have HOL : Hid (w.heap.size ≤ w2.heap.size) := Lib.hid (g1.trans g2).sz
  generalize w2.heap.size = O at HO hO HAO HOL ⊢
  generalize w1.heap.size = X at HBX bx ⊢
  have HAL : Hid (w.heap.size ≤ w.heap.size) := Lib.hid (Nat.le_refl _)
  obtain ⟨A, hA⟩ : ∃ A, A = w.heap.size := ⟨_, rfl⟩
  rw [← hA] at HSB HAO ⊢
  replace HAL : Hid (w.heap.size ≤ A) := Lib.hid (Nat.le_of_eq hA.symm)
  clear g1 g2 g3 hB1 bx hO hA
  go_upto_region 1 with fail
  refine wp_region_list ?_
  refine wpList_runs rfl (some 16) rfl (runs_ldm 33 (ev rfl) HSB.out.range Tryd.underlying33 rfl (by rw [sizeS, stv_len HS.out]) ?_)
  simp only [zz1, zz2, zz3, Act.put, mixA, mixL, zz9, zz0, zz4, zz5, zz6]
  refine wpList_runs rfl (some 17) rfl (runs_ldm 28 (ev rfl) HBX.out.range Tryd.underlying28 rfl (by rw [sizeI]; rfl) ?_)
  simp only [zz1, zz2, zz3, Act.put, mixA, mixL, zz9, zz0, zz4, zz5, zz6]
  refine wpList_runs rfl (some 18) rfl (runs_c2 en_trp (ev rfl) (ev rfl) ((trap_is I r gp ap _ hp gc ac kc hc s HS.out N _ (HIR.out.grew HG.out) HIO.out false HTR.out).mono ?_))
  rintro e w4 ⟨rfl, g4⟩
  refine ⟨_, rfl, ?_⟩
  simp only [zz1, zz2, zz3, Act.put, mixA, mixL, zz9, zz0, zz4, zz5, zz6]
  replace HG := Lib.hid (HG.out.trans g4)
  replace HSB := Lib.hid (HSB.out.grew g4)
  replace HBX := Lib.hid (HBX.out.grew g4)
  replace HO := Lib.hid (HO.out.grew g4)
  clear g4
  have bx := HBX.out
  have x0 := bx.cell 0
  have x1 := bx.cell 1
  have x2 := bx.cell 2
  have x3 := bx.cell 3
  have x4 := bx.cell 4
  have x5 := bx.cell 5
  have x6 := bx.cell 6
  have x7 := bx.cell 7
  have x8 := bx.cell 8
  have x9 := bx.cell 9
  have x10 := bx.cell 10
  have x11 := bx.cell 11
  simp only [zz7, zz8] at x0 x1 x2 x3 x4 x5 x6 x7 x8 x9 x10 x11
  have s0 : w4.cell? ⟨A, 0, none⟩ = some (.int .i64 ((m : Nat) : Int)) := by rw [← HPC.out]; exact HSB.out.cell 0
  have k0 := (show Atv _ _ w from hk0).grew HG.out
  have k1 := (show Atv _ _ w from hk1).grew HG.out
  have k2 := (show Atv _ _ w from hk2).grew HG.out
  have k3 := (show Atv _ _ w from hk3).grew HG.out
  have k4 := (show Atv _ _ w from hk4).grew HG.out
  go_upto_region 4 with fail
  generalize hW : World.alloc _ _ = V4
  have bc : Blk w4.heap.size [.int .i64 k, .int .i64 a, .int .i64 b, .int .i64 d, .int .i16 i] 72 V4 := by subst hW; exact Blk.new w4 _ _
  have g5 : Grew w4 V4 := by subst hW; exact (Grew.refl _).alloc _
  clear hW x0 x1 x2 x3 x4 x5 x6 x7 x8 x9 x10 x11 bx s0 k0 k1 k2 k3 k4
  have hCBne : w4.heap.size ≠ A ∧ w4.heap.size ≠ O := ⟨by have := HSB.out.lt; omega, by have := HO.out.lt; omega⟩
  replace HG := Lib.hid (HG.out.trans g5)
  replace HSB := Lib.hid (HSB.out.grew g5)
  replace HBX := Lib.hid (HBX.out.grew g5)
  replace HO := Lib.hid (HO.out.grew g5)
  have HCB := Lib.hid bc
  generalize w4.heap.size = CB at bc HCB hCBne ⊢
  have HNE := Lib.hid hCBne
  clear g5 hCBne
  have hP := Pf.start (e := STT) (c := A) HSB.out (HBU.out.grew HG.out)
  have hBX0 := HBX.out
  have c0 : Atv ⟨CB, 0, none⟩ (.int .i64 (k : Int)) V4.drew := (bc.grew (Grew.refl _).drw).atv 0 rfl
  clear bc
  refine wp_grew_tail 11 [some 26, some 27, some 28, some 29, some 30, some 31, some 32, some 33, some 34, some 35, some 36] zD3 [fun v _ => v = .pointer (some ⟨q, 0, none⟩), fun v _ => v = .pointer (some ⟨CB, 0, none⟩), fun v _ => v = .int .i64 ((k : Int)), fun v _ => v = .int .i64 ((cst (k : Int)).1), fun v _ => v = .pointer (some ⟨CB, 0, none⟩), fun v _ => v = .int .i64 ((k : Int)), fun v _ => v = .int .i64 ((cst (k : Int)).2.2), fun v _ => v = .int .i64 (((cst (k : Int)).1) - ((cst (k : Int)).2.2)), fun v _ => v = .pointer (some ⟨CB, 0, none⟩), fun v _ => v = .int .i64 ((k : Int)), fun v _ => v = .int .i64 ((cst (k : Int)).2.1)] (by kernel_rfl) (by kernel_rfl) (by kernel_rfl) rfl ?_ ⟨?_, ?_, ?_, ?_, ?_, ?_, ?_, ?_, ?_, ?_, ?_, trivial⟩ ?_
  · exact ⟨fun _ _ _ _ h => h, fun _ _ _ _ h => h, fun _ _ _ _ h => h, fun _ _ _ _ h => h, fun _ _ _ _ h => h, fun _ _ _ _ h => h, fun _ _ _ _ h => h, fun _ _ _ _ h => h, fun _ _ _ _ h => h, fun _ _ _ _ h => h, fun _ _ _ _ h => h, trivial⟩
  · intro u w hR hd; exact runs_mv (ev rfl) ⟨Grew.refl _, rfl⟩
  · intro u w hR hd; exact rn_fld_72_0 (ev rfl) ⟨Grew.refl _, rfl⟩
  · intro u w hR hd; exact rn_ld_3 (ev (hd.1 rfl)) (c0.kept hR) ⟨Grew.refl _, rfl⟩
  · intro u w hR hd; exact runs_c1 en_ren (ev (hd.1 rfl)) (callp (fun _ e => e) (renergy_any (k : Int) _))
  · intro u w hR hd; exact rn_fld_72_0 (ev rfl) ⟨Grew.refl _, rfl⟩
  · intro u w hR hd; exact rn_ld_3 (ev (hd.1 rfl)) (c0.kept hR) ⟨Grew.refl _, rfl⟩
  · intro u w hR hd; exact runs_c1 en_rwr (ev (hd.1 rfl)) (callp (fun _ e => e) (rwrites_any (k : Int) _))
  · intro u w hR hd; exact rn_sub_3 (ev (hd.1 rfl)) (ev (hd.2.1 rfl)) (by have := cst_bd (k : Int); omega) ⟨Grew.refl _, rfl⟩
  · intro u w hR hd; exact rn_fld_72_0 (ev rfl) ⟨Grew.refl _, rfl⟩
  · intro u w hR hd; exact rn_ld_3 (ev (hd.1 rfl)) (c0.kept hR) ⟨Grew.refl _, rfl⟩
  · intro u w hR hd; exact runs_c1 en_rti (ev (hd.1 rfl)) (callp (fun _ e => e) (rticks_any (k : Int) _))
  intro u w5 hR5 h
  have e0 : u 26 = .pointer (some ⟨q, 0, none⟩) := h 0 (by decide)
  have e7 : u 33 = .int .i64 ((cst (k : Int)).1 - (cst (k : Int)).2.2) := h 7 (by decide)
  have e10 : u 36 = .int .i64 (cst (k : Int)).2.1 := h 10 (by decide)
  replace hP := hP.grew ((Grew.refl V4).drw.trans hR5)
  refine wpAny_one (i := 11) (some 37) (by kernel_rfl) rfl rfl rfl (runs_c3 en_spe (ev e0) (ev e7) (ev e10) ((spend_pf hP _ _ (by have := HL.out; omega) (Nat.le_trans HN.out HG.out.sz)).mono ?_))
  rintro e w6 ⟨rfl, hP6⟩
  refine ⟨_, rfl, ?_⟩
  refine wpAny_one (i := 12) (some 38) (by kernel_rfl) rfl rfl rfl (runs_nt (ev rfl) ?_)
  refine wpAny_done (by kernel_rfl) ?_ _
  simp only [zz1, zz2, zz3, Act.put, mixA, mixL, zz9, zz0, zz4, zz5, zz6]
  simp only [Nat.zero_add, Nat.reduceAdd]
  clear h e0 e7 e10 hP hR5 c0
  generalize u 26 = z26
  generalize u 27 = z27
  generalize u 28 = z28
  generalize u 29 = z29
  generalize u 30 = z30
  generalize u 31 = z31
  generalize u 32 = z32
  generalize u 33 = z33
  generalize u 34 = z34
  generalize u 35 = z35
  generalize u 36 = z36
  have HP6 : Hid (Pf STT N A q S s (spend W (k : Int)) V4 w6) := Lib.hid hP6
  clear hP6 hBX0
  rw [show (W.call 8 ((cst (k : Int)).1 - (cst (k : Int)).2.2) (cst (k : Int)).2.1).okb = false from HSP.out]
  simp only [Bool.not_false, Exit.then]
  apply_assumption
  refine wp_cond_true rfl ?_
  go_upto_region 5 with fail
  have HO6 := HP6.out.other HO.out ((HBU.out.grew HG.out).aside HO.out) (Ne.symm HAO.out)
  refine wp_region_list ?_
  refine load_st Tryd.underlying33 sizeS rfl (.tmp 3) rfl A rfl s HS.out HP6.out.cpu ?_
  simp only [zz1, zz2, zz3, Act.put, mixA, mixL, zz9, zz0, zz4, zz5, zz6]
  refine store_st sizeS rfl (.tmp 6) (.tmp 39) rfl O rfl s zst HS.out zst_ok rfl HO6 fun w9 hB9 c9 => ?_
  simp only [zz1, zz2, zz3, Act.put, mixA, mixL, zz9, zz0, zz4, zz5, zz6]
  refine wpList_runs rfl (some 7) rfl (runs_mva (v := .int .i64 4) rfl ?_)
  simp only [zz1, zz2, zz3, Act.put, mixA, mixL, zz9, zz0, zz4, zz5, zz6]
  obtain ⟨S6, hb6, hm6⟩ : ∃ S', Bus N w6 q (spend W (k : Int)) S' ∧ Moved No S S' w w6 := by
    obtain ⟨_, S', h2, h3⟩ := HP6.out
    exact ⟨S', h2, Moved.skip (Moved.of_grew No S HG.out) h3 HAL.out⟩
  have hg9 : Moved No S S6 w w9 := Moved.skip hm6 ⟨c9.mono fun k hk => .inl hk, fun k hk => .inl hk⟩ HOL.out
  have hb9 := hb6.chg c9 fun k hk e => by have e2 : k = O := e; subst e2; exact hb6.aside HO6 (by decide) hk
  go_wp2
  refine ret_st Tryd.results15 HS.out rfl rfl hB9 ?_
  exact ⟨rfl, S6, hb9, hg9⟩
end Go.Proofs.YtbhglpiiabpdjaaDoor
namespace Go.Proofs.YtbhglpiiabpdjaaDoor
open Go Go.RowKit Go.IntWalk Go.WideShapes
set_option linter.unusedSimpArgs false
set_option linter.unusedVariables false
set_option maxRecDepth 60000
section
variable {dst : Option Tmp} {ty : TypeId} {pos : String} {after : Array Edge} {g : Option (Nat × Bool)} {a : Act} {w : World} {T : Value → World → Prop}
end
theorem wp_act {c : Code} {Q : Exit → Act → World → Prop} {a a' : Act} {w : World} (h : a = a') (hw : c.wp Tryd.prog Q a' w) : c.wp Tryd.prog Q a w := h ▸ hw
theorem then_ok {K : Act → World → Prop} {Q : Exit → Act → World → Prop} {a : Act} {w : World} (h : K a w) : Exit.then K Q .normal a w := h
section
variable {id d1 d2 x : Nat} {c z : Int} {y1 y2 : TypeId} {p1 p2 : String} {f1 f2 : Array Edge} {X Y : Code} {Q : Exit → Act → World → Prop} {a : Act} {w : World}
/-- One level of a switch: the number is another. -/
theorem sw_no (hx : a.eval (.tmp x) = .int .i64 z) (hne : (z == c) = false) (h1 : (a.put (some d1) (.bool false)).eval (.tmp d1) = .bool false) (h2 : ((a.put (some d1) (.bool false)).put (some d2) (.bool false)).eval (.tmp d2) = .bool false)
    (h : Y.wp Tryd.prog Q ((a.put (some d1) (.bool false)).put (some d2) (.bool false)) w) :
    ((Code.region id #[⟨some d1, .binOp .eql 3 (.tmp x) (.const (.int .i64 c)) 3, y1, p1, f1, none⟩, ⟨some d2, .assign (.tmp d1), y2, p2, f2, none⟩] false).seq (.cond (.tmp d2) X Y)).wp Tryd.prog Q a w := by
  refine wp_seq ?_
  refine wp_region_list ?_
  refine wpList_runs rfl (some d1) rfl (runs_to (v := .bool (z == c)) (u := .bool false) (rn_eql_3 hx rfl ⟨rfl, rfl⟩) (congrArg Value.bool hne) ?_)
  refine wpList_runs rfl (some d2) rfl (runs_mva h1 ?_)
  refine wpList_nil ?_
  refine then_ok ?_
  exact wp_cond_false h2 h
theorem sw_yes (hx : a.eval (.tmp x) = .int .i64 z) (hne : (z == c) = true) (h1 : (a.put (some d1) (.bool true)).eval (.tmp d1) = .bool true) (h2 : ((a.put (some d1) (.bool true)).put (some d2) (.bool true)).eval (.tmp d2) = .bool true)
    (h : X.wp Tryd.prog Q ((a.put (some d1) (.bool true)).put (some d2) (.bool true)) w) :
    ((Code.region id #[⟨some d1, .binOp .eql 3 (.tmp x) (.const (.int .i64 c)) 3, y1, p1, f1, none⟩, ⟨some d2, .assign (.tmp d1), y2, p2, f2, none⟩] false).seq (.cond (.tmp d2) X Y)).wp Tryd.prog Q a w := by
  refine wp_seq ?_
  refine wp_region_list ?_
  refine wpList_runs rfl (some d1) rfl (runs_to (v := .bool (z == c)) (u := .bool true) (rn_eql_3 hx rfl ⟨rfl, rfl⟩) (congrArg Value.bool hne) ?_)
  refine wpList_runs rfl (some d2) rfl (runs_mva h1 ?_)
  refine wpList_nil ?_
  refine then_ok ?_
  exact wp_cond_true h2 h
end
theorem put_comm9 (a : Act) {i j : Nat} (h : i ≠ j) (v x : Value) : (a.put (some i) v).put (some j) x = (a.put (some j) x).put (some i) v := by
  simp only [Act.put, Array.setIfInBounds_comm v x h]
theorem wpAnyH_pair {P : Program} {ops : Array Oper} {Q : Exit → Act → World → Prop} {S : World → Prop} {fuel : Nat} {listed : Array Bool} {a : Act} {w : World} (i j di dj : Nat) {oi oj : Oper} {vi vj : Value} (hr : Region.ready .any ops listed = [i, j]) (hij : i ≠ j) (hdd : di ≠ dj)
    (hoi : ops[i]? = some oi) (hoj : ops[j]? = some oj) (hgi : oi.guard = none) (hgj : oj.guard = none) (hdi : oi.dst = some di) (hdj : oj.dst = some dj) (hri : Region.ready .any ops (listed.setIfInBounds i true) = [j]) (hrj : Region.ready .any ops (listed.setIfInBounds j true) = [i])
    (h1 : Runs P oi a w fun v w' => v = vi ∧ w' = w) (h2 : Runs P oj (a.put (some di) vi) w fun v w' => v = vj ∧ w' = w) (h3 : Runs P oj a w fun v w' => v = vj ∧ w' = w) (h4 : Runs P oi (a.put (some dj) vj) w fun v w' => v = vi ∧ w' = w) (hS : S w)
    (h : wpAnyH P .any ops Q S fuel ((listed.setIfInBounds i true).setIfInBounds j true) ((a.put (some di) vi).put (some dj) vj) w) : wpAnyH P .any ops Q S (fuel + 2) listed a w := by
  refine wpAnyH_go [i, j] hr (by simp) ⟨⟨oi, hoi, hgi, fun K Q hk => h1 K Q fun v w' ⟨e1, e2⟩ => hk _ _ ?_⟩, ⟨oj, hoj, hgj, fun K Q hk => h3 K Q fun v w' ⟨e1, e2⟩ => hk _ _ ?_⟩, trivial⟩
  · subst e1 e2
    rw [hdi]
    refine ⟨hS, wpAnyH_go [j] hri (by simp) ⟨⟨oj, hoj, hgj, fun K Q hk => h2 K Q fun v w' ⟨e1, e2⟩ => hk _ _ ?_⟩, trivial⟩⟩
    subst e1 e2
    rw [hdj]
    exact ⟨hS, h⟩
  · subst e1 e2
    rw [hdj]
    refine ⟨hS, wpAnyH_go [i] hrj (by simp) ⟨⟨oi, hoi, hgi, fun K Q hk => h4 K Q fun v w' ⟨e1, e2⟩ => hk _ _ ?_⟩, trivial⟩⟩
    subst e1 e2
    rw [hdi, ← put_comm9 _ hdd, ← Array.setIfInBounds_comm _ _ hij]
    exact ⟨hS, h⟩
theorem rbin_6 (w : World) : Calls Tryd.prog 42 #[.int .i64 6] w fun e w' => e = .returned (.int .i64 3) ∧ w' = w := by
  go_enter Tryd.func42, Tryd.ntmps42
  go_wp2
  go_ret
  exact ⟨rfl, rfl⟩
theorem rbin_7 (w : World) : Calls Tryd.prog 42 #[.int .i64 7] w fun e w' => e = .returned (.int .i64 4) ∧ w' = w := by
  go_enter Tryd.func42, Tryd.ntmps42
  go_wp2
  go_ret
  exact ⟨rfl, rfl⟩
theorem rbin_8 (w : World) : Calls Tryd.prog 42 #[.int .i64 8] w fun e w' => e = .returned (.int .i64 5) ∧ w' = w := by
  go_enter Tryd.func42, Tryd.ntmps42
  go_wp2
  go_ret
  exact ⟨rfl, rfl⟩
theorem rbin_9 (w : World) : Calls Tryd.prog 42 #[.int .i64 9] w fun e w' => e = .returned (.int .i64 6) ∧ w' = w := by
  go_enter Tryd.func42, Tryd.ntmps42
  go_wp2
  go_ret
  exact ⟨rfl, rfl⟩
theorem rbin_10 (w : World) : Calls Tryd.prog 42 #[.int .i64 10] w fun e w' => e = .returned (.int .i64 7) ∧ w' = w := by
  go_enter Tryd.func42, Tryd.ntmps42
  go_wp2
  go_ret
  exact ⟨rfl, rfl⟩
theorem rbin_11 (w : World) : Calls Tryd.prog 42 #[.int .i64 11] w fun e w' => e = .returned (.int .i64 8) ∧ w' = w := by
  go_enter Tryd.func42, Tryd.ntmps42
  go_wp2
  go_ret
  exact ⟨rfl, rfl⟩
theorem rbin_12 (w : World) : Calls Tryd.prog 42 #[.int .i64 12] w fun e w' => e = .returned (.int .i64 10) ∧ w' = w := by
  go_enter Tryd.func42, Tryd.ntmps42
  go_wp2
  go_ret
  exact ⟨rfl, rfl⟩
theorem rbin_13 (w : World) : Calls Tryd.prog 42 #[.int .i64 13] w fun e w' => e = .returned (.int .i64 11) ∧ w' = w := by
  go_enter Tryd.func42, Tryd.ntmps42
  go_wp2
  go_ret
  exact ⟨rfl, rfl⟩
theorem rbin_30 (w : World) : Calls Tryd.prog 42 #[.int .i64 30] w fun e w' => e = .returned (.int .i64 0) ∧ w' = w := by
  go_enter Tryd.func42, Tryd.ntmps42
  go_wp2
  go_ret
  exact ⟨rfl, rfl⟩
end Go.Proofs.YtbhglpiiabpdjaaDoor
