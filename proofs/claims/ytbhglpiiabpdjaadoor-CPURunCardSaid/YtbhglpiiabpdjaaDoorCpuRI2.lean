/-
  LAYER 12 (cpu): Step of the reference: instructions.
-/
import Derived.Test.YtbhglpiiabpdjaaDoorShort
import Derived.Test.YtbhglpiiabpdjaaDoorCpuMr
namespace Go.Proofs.YtbhglpiiabpdjaaDoor
open Go Go.RowKit Go.IntWalk Go.WideShapes
set_option linter.unusedSimpArgs false
set_option linter.unusedVariables false
set_option maxRecDepth 60000
set_option maxHeartbeats 20000000 in
theorem rgo_d (I : Im) (r : Rest) (gp ap kp hp : Option Addr) (gc ac kc hc : Nat) (s : St) (hs : s.Ok) (W : Wd) (hWo : W.Ok) (N q : Nat) (S : Nat → Prop) (w : World) (hbus : Bus N w q W S) (hI : ImRows N w I gp ap kp gc ac kc) (hIo : I.Ok) (hl : W.cs.length ≤ 70000) (hN : N ≤ w.heap.size) (k a b d : Nat) (i : Int) (hx : I.at s.pc = some ⟨k, a, b, d, i⟩) (hv : valid ⟨k, a, b, d, i⟩ = true) (hi : I16 i) (ha : a < 8) (hb : b < 8) (hd : d < 8) (ho : (opnd ⟨k, a, b, d, i⟩ s I).2 = true) (hsp : (spend W (k : Int)).okb = true) (hk2 : k = 22 ∨ k = 19) :
    Calls Tryd.prog 15 #[.agg (stv s).toArray, .agg #[r.v0, .slice gp I.gs.length gc, .int .i64 I.sens, .int .i64 I.outs, .slice hp I.chans hc, r.v5, .slice ap I.addr.length ac, r.v7, r.v8, r.v9, r.v10, .slice kp I.code.length kc], .pointer (some ⟨q, 0, none⟩)] w fun e w' => e = .returned (.tuple #[.agg (stv (go1 ⟨k, a, b, d, i⟩ (opnd ⟨k, a, b, d, i⟩ s I).1 s W).1).toArray, .int .i64 ((go1 ⟨k, a, b, d, i⟩ (opnd ⟨k, a, b, d, i⟩ s I).1 s W).2.1)]) ∧ ∃ S', Bus N w' q ((go1 ⟨k, a, b, d, i⟩ (opnd ⟨k, a, b, d, i⟩ s I).1 s W).2.2) S' ∧ Moved No S S' w w' := by
  have HSP := Lib.hid hsp
  have HK2 := Lib.hid hk2
  clear hsp hk2
  have hxx := hx
  obtain ⟨x, hxe⟩ : ∃ x : Cd, x = ⟨k, a, b, d, i⟩ := ⟨_, rfl⟩
  have hTR : trapd I s = false := by
    unfold trapd; rw [hx]; dsimp only; rw [hv, ho]; rfl
  rw [← hxe] at hx
  obtain ⟨m, hpc, hml, hmx⟩ := Im.at_some hx
  obtain ⟨kb, ko, rfl, hkc⟩ := hI.code.cells (by omega)
  have hk0 : Atv ⟨kb, ko + m * 5, none⟩ (.int .i64 x.op) w := hkc m x hmx 0 _ rfl
  have hk1 : Atv ⟨kb, ko + m * 5 + 1, none⟩ (.int .i64 x.a) w := hkc m x hmx 1 _ rfl
  have hk2 : Atv ⟨kb, ko + m * 5 + 2, none⟩ (.int .i64 x.b) w := hkc m x hmx 2 _ rfl
  have hk3 : Atv ⟨kb, ko + m * 5 + 3, none⟩ (.int .i64 x.c) w := hkc m x hmx 3 _ rfl
  have hk4 : Atv ⟨kb, ko + m * 5 + 4, none⟩ (.int .i16 x.i) w := hkc m x hmx 4 _ rfl
  have hm0 : ¬ ((m : Nat) : Int) < 0 := by omega
  have hm1 : ¬ (I.code.length : Int) ≤ ((m : Nat) : Int) := by omega
  have hm2 : ((m : Nat) : Int) < (I.code.length : Int) := by omega
  have HPC := Lib.hid hpc
  have hm9 : (m : Int) + 1 ≤ 9223372036854775807 := by have := hIo.lc; omega
  subst hxe
  obtain ⟨hi1, hi2⟩ := hi
  have HX := Lib.hid hxx
  have HV := Lib.hid hv
  have HOP := Lib.hid ho
  have HTR := Lib.hid hTR
  have ha8 : (a : Int) < 8 := by omega
  have hb8 : (b : Int) < 8 := by omega
  have hd8 : (d : Int) < 8 := by omega
  clear hx hxx hv ho hTR hpc hml hmx hkc
  have HS := Lib.hid hs
  have HWO := Lib.hid hWo
  have HIO := Lib.hid hIo
  have HIR := Lib.hid hI
  have HBU := Lib.hid hbus
  have HL := Lib.hid hl
  have HN := Lib.hid hN
  clear hs hWo hIo hI hbus hl hN
  go_enter Tryd.func15, Tryd.ntmps15
  go_upto_region 0 with fail
  refine wp_region_list ?_
  refine wpList_box_whole rfl _ _ rfl (stv s) rfl fun w1 hB1 g1 => ?_
  simp only [zz1, zz2, zz3, Act.put, mixA, mixL, zz9, zz0, zz4, zz5, zz6]
  refine wpList_box_whole rfl _ _ rfl [r.v0, .slice gp I.gs.length gc, .int .i64 I.sens, .int .i64 I.outs, .slice hp I.chans hc, r.v5, .slice ap I.addr.length ac, r.v7, r.v8, r.v9, r.v10, .slice (some ⟨kb, ko, none⟩) I.code.length kc] rfl fun w2 bx g2 => ?_
  simp only [zz1, zz2, zz3, Act.put, mixA, mixL, zz9, zz0, zz4, zz5, zz6]
  refine alloc_st rfl rfl fun w3 hO g3 => ?_
  simp only [zz1, zz2, zz3, Act.put, mixA, mixL, zz9, zz0, zz4, zz5, zz6]
  have HG := Lib.hid ((g1.trans g2).trans g3)
  have HSB := Lib.hid ((hB1.grew g2).grew g3)
  have HBX := Lib.hid (bx.grew g3)
  have HO := Lib.hid hO
  have HAO : Hid (w.heap.size ≠ w2.heap.size) := Lib.hid (by have := (hB1.grew g2).lt; omega)
  have HOL : Hid (w.heap.size ≤ w2.heap.size) := Lib.hid (g1.trans g2).sz
  generalize w2.heap.size = O at HO hO HAO HOL ⊢
  generalize w1.heap.size = X at HBX bx ⊢
  have HAL : Hid (w.heap.size ≤ w.heap.size) := Lib.hid (Nat.le_refl _)
  obtain ⟨A, hA⟩ : ∃ A, A = w.heap.size := ⟨_, rfl⟩
  rw [← hA] at HSB HAO ⊢
  replace HAL : Hid (w.heap.size ≤ A) := Lib.hid (Nat.le_of_eq hA.symm)
  clear g1 g2 g3 hB1 bx hO hA
  go_upto_region 1 with fail
  refine wp_region_list ?_
  refine wpList_runs rfl (some 16) rfl (runs_ldm 33 (ev rfl) HSB.out.range Tryd.underlying33 rfl (by rw [sizeS, stv_len HS.out]) ?_)
  simp only [zz1, zz2, zz3, Act.put, mixA, mixL, zz9, zz0, zz4, zz5, zz6]
  refine wpList_runs rfl (some 17) rfl (runs_ldm 28 (ev rfl) HBX.out.range Tryd.underlying28 rfl (by rw [sizeI]; rfl) ?_)
  simp only [zz1, zz2, zz3, Act.put, mixA, mixL, zz9, zz0, zz4, zz5, zz6]
  refine wpList_runs rfl (some 18) rfl (runs_c2 en_trp (ev rfl) (ev rfl) ((trap_is I r gp ap _ hp gc ac kc hc s HS.out N _ (HIR.out.grew HG.out) HIO.out false HTR.out).mono ?_))
  rintro e w4 ⟨rfl, g4⟩
  refine ⟨_, rfl, ?_⟩
  simp only [zz1, zz2, zz3, Act.put, mixA, mixL, zz9, zz0, zz4, zz5, zz6]
  replace HG := Lib.hid (HG.out.trans g4)
  replace HSB := Lib.hid (HSB.out.grew g4)
  replace HBX := Lib.hid (HBX.out.grew g4)
  replace HO := Lib.hid (HO.out.grew g4)
  clear g4
  have bx := HBX.out
  have x0 := bx.cell 0
  have x1 := bx.cell 1
  have x2 := bx.cell 2
  have x3 := bx.cell 3
  have x4 := bx.cell 4
  have x5 := bx.cell 5
  have x6 := bx.cell 6
  have x7 := bx.cell 7
  have x8 := bx.cell 8
  have x9 := bx.cell 9
  have x10 := bx.cell 10
  have x11 := bx.cell 11
  simp only [zz7, zz8] at x0 x1 x2 x3 x4 x5 x6 x7 x8 x9 x10 x11
  have s0 : w4.cell? ⟨A, 0, none⟩ = some (.int .i64 ((m : Nat) : Int)) := by rw [← HPC.out]; exact HSB.out.cell 0
  have k0 := (show Atv _ _ w from hk0).grew HG.out
  have k1 := (show Atv _ _ w from hk1).grew HG.out
  have k2 := (show Atv _ _ w from hk2).grew HG.out
  have k3 := (show Atv _ _ w from hk3).grew HG.out
  have k4 := (show Atv _ _ w from hk4).grew HG.out
  go_upto_region 4 with fail
  generalize hW : World.alloc _ _ = V4
  have bc : Blk w4.heap.size [.int .i64 k, .int .i64 a, .int .i64 b, .int .i64 d, .int .i16 i] 72 V4 := by subst hW; exact Blk.new w4 _ _
  have g5 : Grew w4 V4 := by subst hW; exact (Grew.refl _).alloc _
  clear hW x0 x1 x2 x3 x4 x5 x6 x7 x8 x9 x10 x11 bx s0 k0 k1 k2 k3 k4
  have hCBne : w4.heap.size ≠ A ∧ w4.heap.size ≠ O := ⟨by have := HSB.out.lt; omega, by have := HO.out.lt; omega⟩
  replace HG := Lib.hid (HG.out.trans g5)
  replace HSB := Lib.hid (HSB.out.grew g5)
  replace HBX := Lib.hid (HBX.out.grew g5)
  replace HO := Lib.hid (HO.out.grew g5)
  have HCB := Lib.hid bc
  generalize w4.heap.size = CB at bc HCB hCBne ⊢
  have HNE := Lib.hid hCBne
  clear g5 hCBne
  have hP := Pf.start (e := STT) (c := A) HSB.out (HBU.out.grew HG.out)
  have hBX0 := HBX.out
  have c0 : Atv ⟨CB, 0, none⟩ (.int .i64 (k : Int)) V4.drew := (bc.grew (Grew.refl _).drw).atv 0 rfl
  clear bc
  refine wp_grew_tail 11 [some 26, some 27, some 28, some 29, some 30, some 31, some 32, some 33, some 34, some 35, some 36] zD3 [fun v _ => v = .pointer (some ⟨q, 0, none⟩), fun v _ => v = .pointer (some ⟨CB, 0, none⟩), fun v _ => v = .int .i64 ((k : Int)), fun v _ => v = .int .i64 ((cst (k : Int)).1), fun v _ => v = .pointer (some ⟨CB, 0, none⟩), fun v _ => v = .int .i64 ((k : Int)), fun v _ => v = .int .i64 ((cst (k : Int)).2.2), fun v _ => v = .int .i64 (((cst (k : Int)).1) - ((cst (k : Int)).2.2)), fun v _ => v = .pointer (some ⟨CB, 0, none⟩), fun v _ => v = .int .i64 ((k : Int)), fun v _ => v = .int .i64 ((cst (k : Int)).2.1)] (by kernel_rfl) (by kernel_rfl) (by kernel_rfl) rfl ?_ ⟨?_, ?_, ?_, ?_, ?_, ?_, ?_, ?_, ?_, ?_, ?_, trivial⟩ ?_
  · exact ⟨fun _ _ _ _ h => h, fun _ _ _ _ h => h, fun _ _ _ _ h => h, fun _ _ _ _ h => h, fun _ _ _ _ h => h, fun _ _ _ _ h => h, fun _ _ _ _ h => h, fun _ _ _ _ h => h, fun _ _ _ _ h => h, fun _ _ _ _ h => h, fun _ _ _ _ h => h, trivial⟩
  · intro u w hR hd; exact runs_mv (ev rfl) ⟨Grew.refl _, rfl⟩
  · intro u w hR hd; exact rn_fld_72_0 (ev rfl) ⟨Grew.refl _, rfl⟩
  · intro u w hR hd; exact rn_ld_3 (ev (hd.1 rfl)) (c0.kept hR) ⟨Grew.refl _, rfl⟩
  · intro u w hR hd; exact runs_c1 en_ren (ev (hd.1 rfl)) (callp (fun _ e => e) (renergy_any (k : Int) _))
  · intro u w hR hd; exact rn_fld_72_0 (ev rfl) ⟨Grew.refl _, rfl⟩
  · intro u w hR hd; exact rn_ld_3 (ev (hd.1 rfl)) (c0.kept hR) ⟨Grew.refl _, rfl⟩
  · intro u w hR hd; exact runs_c1 en_rwr (ev (hd.1 rfl)) (callp (fun _ e => e) (rwrites_any (k : Int) _))
  · intro u w hR hd; exact rn_sub_3 (ev (hd.1 rfl)) (ev (hd.2.1 rfl)) (by have := cst_bd (k : Int); omega) ⟨Grew.refl _, rfl⟩
  · intro u w hR hd; exact rn_fld_72_0 (ev rfl) ⟨Grew.refl _, rfl⟩
  · intro u w hR hd; exact rn_ld_3 (ev (hd.1 rfl)) (c0.kept hR) ⟨Grew.refl _, rfl⟩
  · intro u w hR hd; exact runs_c1 en_rti (ev (hd.1 rfl)) (callp (fun _ e => e) (rticks_any (k : Int) _))
  intro u w5 hR5 h
  have e0 : u 26 = .pointer (some ⟨q, 0, none⟩) := h 0 (by decide)
  have e7 : u 33 = .int .i64 ((cst (k : Int)).1 - (cst (k : Int)).2.2) := h 7 (by decide)
  have e10 : u 36 = .int .i64 (cst (k : Int)).2.1 := h 10 (by decide)
  replace hP := hP.grew ((Grew.refl V4).drw.trans hR5)
  refine wpAny_one (i := 11) (some 37) (by kernel_rfl) rfl rfl rfl (runs_c3 en_spe (ev e0) (ev e7) (ev e10) ((spend_pf hP _ _ (by have := HL.out; omega) (Nat.le_trans HN.out HG.out.sz)).mono ?_))
  rintro e w6 ⟨rfl, hP6⟩
  refine ⟨_, rfl, ?_⟩
  refine wpAny_one (i := 12) (some 38) (by kernel_rfl) rfl rfl rfl (runs_nt (ev rfl) ?_)
  refine wpAny_done (by kernel_rfl) ?_ _
  simp only [zz1, zz2, zz3, Act.put, mixA, mixL, zz9, zz0, zz4, zz5, zz6]
  simp only [Nat.zero_add, Nat.reduceAdd]
  clear h e0 e7 e10 hP hR5 c0
  generalize u 26 = z26
  generalize u 27 = z27
  generalize u 28 = z28
  generalize u 29 = z29
  generalize u 30 = z30
  generalize u 31 = z31
  generalize u 32 = z32
  generalize u 33 = z33
  generalize u 34 = z34
  generalize u 35 = z35
  generalize u 36 = z36
  have HP6 : Hid (Pf STT N A q S s (spend W (k : Int)) V4 w6) := Lib.hid hP6
  clear hP6 hBX0
  rw [show (W.call 8 ((cst (k : Int)).1 - (cst (k : Int)).2.2) (cst (k : Int)).2.1).okb = true from HSP.out]
  simp only [Bool.not_true, Exit.then]
  apply_assumption
  refine wp_cond_false rfl ?_
  go_upto_region 6 with fail
  have hz6 := HBU.out.grew HG.out
  have HO6 := HP6.out.other HO.out (hz6.aside HO.out) (Ne.symm HAO.out)
  have HXA := Lib.hid (HBX.out.ne HSB.out (by decide))
  have HCB6 := HP6.out.other HCB.out (hz6.aside HCB.out) HNE.out.1
  have HBX6 := HP6.out.other HBX.out (hz6.aside HBX.out) (HBX.out.ne HSB.out (by decide))
  obtain ⟨S6, hb6, hm6⟩ : ∃ S', Bus N w6 q (spend W (k : Int)) S' ∧ Moved No S S' w w6 := by
    obtain ⟨_, S', h2, h3⟩ := HP6.out
    exact ⟨S', h2, Moved.skip (Moved.of_grew No S HG.out) h3 HAL.out⟩
  refine wp_region_list ?_
  refine load_st Tryd.underlying33 sizeS rfl (.tmp 3) rfl A rfl s HS.out HP6.out.cpu ?_
  simp only [zz1, zz2, zz3, Act.put, mixA, mixL, zz9, zz0, zz4, zz5, zz6]
  refine alloc_st rfl rfl fun w7 hZ0 g7 => ?_
  simp only [zz1, zz2, zz3, Act.put, mixA, mixL, zz9, zz0, zz4, zz5, zz6]
  refine store_st sizeS rfl (.tmp 9) (.tmp 40) rfl w6.heap.size rfl s zst HS.out zst_ok rfl hZ0 fun V6 hZ c7 => ?_
  simp only [zz1, zz2, zz3, Act.put, mixA, mixL, zz9, zz0, zz4, zz5, zz6]
  have gV : Grew w6 V6 := grew_lift g7 c7 fun k hk => by have e : k = w6.heap.size := hk; omega
  have hZA : w6.heap.size ≠ A ∧ w6.heap.size ≠ O := ⟨by have := HP6.out.cpu.lt; omega, by have := HO6.lt; omega⟩
  have HZN := Lib.hid hZA
  have HZ := Lib.hid hZ
  have HM6 : Hid (Moved No S S6 w V6) := Lib.hid (hm6.grow gV)
  have HB6 := Lib.hid (hb6.grew gV)
  replace HO := Lib.hid (HO6.grew gV)
  replace HCB := Lib.hid (HCB6.grew gV)
  replace HBX := Lib.hid (HBX6.grew gV)
  have HP0 := Pf.start (HP6.out.cpu.grew gV) HB6.out
  have HNV : Hid (N ≤ V6.heap.size) := Lib.hid (by have := HN.out; have := HG.out.sz; have := hm6.size; have := gV.sz; omega)
  generalize w6.heap.size = Z at HZ hZ0 hZ c7 HZN hZA ⊢
  clear hz6 HO6 HCB6 HBX6 hm6 hb6 hZ0 g7 hZ c7 gV hZA HP6 HSB
  have c0 : V6.cell? ⟨CB, 0, none⟩ = some (.int .i64 (k : Int)) := HCB.out.cell 0
  have c1 : V6.cell? ⟨CB, 1, none⟩ = some (.int .i64 (a : Int)) := HCB.out.cell 1
  have c4 : V6.cell? ⟨CB, 4, none⟩ = some (.int .i16 i) := HCB.out.cell 4
  have s0 : V6.cell? ⟨A, 0, none⟩ = some (.int .i64 s.pc) := HP0.cpu.cell 0
  have sf := HP0.cpu.free
  have hp0 : 0 ≤ s.pc := by rw [HPC.out]; omega
  have hp1 : s.pc + 1 ≤ 9223372036854775807 := by rw [HPC.out]; exact hm9
  refine wpList_nil ?_
  simp only [Exit.then]
  apply_assumption
  go_upto_region 11 with fail
  generalize hW : World.setCell _ _ _ = V7
  have hP7 : Pf STT N A q S6 ⟨s.pc + 1, s.xs⟩ (spend W (k : Int)) V6 V7 := hW ▸ HP0.pc (s.pc + 1)
  have HP7 := Lib.hid hP7
  have HS7 : Hid ((⟨s.pc + 1, s.xs⟩ : St).Ok) := Lib.hid (HS.out.pc _)
  have HW7 : Hid (spend W (k : Int)).Ok := Lib.hid (HWO.out.call _ _ _)
  have HL7 : Hid ((spend W (k : Int)).cs.length ≤ 70001) := Lib.hid (by unfold spend; rw [Wd.call_len]; have := HL.out; omega)
  have hCB7 := hP7.other HCB.out (HB6.out.aside HCB.out) HNE.out.1
  have HC7 := Lib.hid hCB7
  clear hW HP0 c0 c1 c4 s0 sf hP7
  have sf := HP7.out.cpu.free
  have s0 : V7.cell? ⟨A, 0, none⟩ = some (.int .i64 (s.pc + 1)) := HP7.out.cpu.cell 0
  have sA : V7.cell? ⟨A, 1 + a, none⟩ = some (.int .i16 (s.reg a)) := by rw [HP7.out.cpu.cell]; exact stv_at HS7.out (by omega)
  have sB : V7.cell? ⟨A, 1 + b, none⟩ = some (.int .i16 (s.reg b)) := by rw [HP7.out.cpu.cell]; exact stv_at HS7.out (by omega)
  have sD : V7.cell? ⟨A, 1 + d, none⟩ = some (.int .i16 (s.reg d)) := by rw [HP7.out.cpu.cell]; exact stv_at HS7.out (by omega)
  obtain ⟨ra1, ra2⟩ : -32768 ≤ s.reg a ∧ s.reg a ≤ 32767 := HS.out.reg a
  obtain ⟨rb1, rb2⟩ : -32768 ≤ s.reg b ∧ s.reg b ≤ 32767 := HS.out.reg b
  have c0 := hCB7.cell 0
  have c1 := hCB7.cell 1
  have c2 := hCB7.cell 2
  have c3 := hCB7.cell 3
  have c4 := hCB7.cell 4
  simp only [zz7, zz8] at c0 c1 c2 c3 c4
  clear hCB7
  refine wp_region_list ?_
  refine wpList_runs rfl (some 48) rfl (rn_fld_72_0 (ev rfl) ?_)
  simp only [zz1, zz2, zz3, Act.put, mixA, mixL, zz9, zz0, zz4, zz5, zz6]
  refine wpList_runs rfl (some 49) rfl (rn_ld_3 (ev rfl) c0 ?_)
  simp only [zz1, zz2, zz3, Act.put, mixA, mixL, zz9, zz0, zz4, zz5, zz6]
  refine wpList_nil ?_
  refine then_ok ?_
  apply_assumption
  refine wp_block ?_
  rcases HK2.out with rfl | rfl
  · refine sw_no (z := 22) rfl (by decide) rfl rfl ?_
    refine wp_act (by simp only [zz1, zz2, zz3, Act.put, mixA, mixL, zz9, zz0, zz4, zz5, zz6]; rfl) ?_
    refine sw_no (z := 22) rfl (by decide) rfl rfl ?_
    refine wp_act (by simp only [zz1, zz2, zz3, Act.put, mixA, mixL, zz9, zz0, zz4, zz5, zz6]; rfl) ?_
    refine sw_no (z := 22) rfl (by decide) rfl rfl ?_
    refine wp_act (by simp only [zz1, zz2, zz3, Act.put, mixA, mixL, zz9, zz0, zz4, zz5, zz6]; rfl) ?_
    refine sw_no (z := 22) rfl (by decide) rfl rfl ?_
    refine wp_act (by simp only [zz1, zz2, zz3, Act.put, mixA, mixL, zz9, zz0, zz4, zz5, zz6]; rfl) ?_
    refine sw_no (z := 22) rfl (by decide) rfl rfl ?_
    refine wp_act (by simp only [zz1, zz2, zz3, Act.put, mixA, mixL, zz9, zz0, zz4, zz5, zz6]; rfl) ?_
    refine sw_no (z := 22) rfl (by decide) rfl rfl ?_
    refine wp_act (by simp only [zz1, zz2, zz3, Act.put, mixA, mixL, zz9, zz0, zz4, zz5, zz6]; rfl) ?_
    refine sw_no (z := 22) rfl (by decide) rfl rfl ?_
    refine wp_act (by simp only [zz1, zz2, zz3, Act.put, mixA, mixL, zz9, zz0, zz4, zz5, zz6]; rfl) ?_
    refine sw_no (z := 22) rfl (by decide) rfl rfl ?_
    refine wp_act (by simp only [zz1, zz2, zz3, Act.put, mixA, mixL, zz9, zz0, zz4, zz5, zz6]; rfl) ?_
    refine sw_no (z := 22) rfl (by decide) rfl rfl ?_
    refine wp_act (by simp only [zz1, zz2, zz3, Act.put, mixA, mixL, zz9, zz0, zz4, zz5, zz6]; rfl) ?_
    refine sw_no (z := 22) rfl (by decide) rfl rfl ?_
    refine wp_act (by simp only [zz1, zz2, zz3, Act.put, mixA, mixL, zz9, zz0, zz4, zz5, zz6]; rfl) ?_
    refine sw_no (z := 22) rfl (by decide) rfl rfl ?_
    refine wp_act (by simp only [zz1, zz2, zz3, Act.put, mixA, mixL, zz9, zz0, zz4, zz5, zz6]; rfl) ?_
    refine sw_no (z := 22) rfl (by decide) rfl rfl ?_
    refine wp_act (by simp only [zz1, zz2, zz3, Act.put, mixA, mixL, zz9, zz0, zz4, zz5, zz6]; rfl) ?_
    refine sw_no (z := 22) rfl (by decide) rfl rfl ?_
    refine wp_act (by simp only [zz1, zz2, zz3, Act.put, mixA, mixL, zz9, zz0, zz4, zz5, zz6]; rfl) ?_
    refine sw_yes (z := 22) rfl (by decide) rfl rfl ?_
    refine wp_act (by simp only [zz1, zz2, zz3, Act.put, mixA, mixL, zz9, zz0, zz4, zz5, zz6]; rfl) ?_
    by_cases hzr : s.reg a = 0
    · have HZR := Lib.hid hzr
      clear hzr
      have HGO : Hid (go1 ⟨(22 : Int), a, b, d, i⟩ ((opnd ⟨(22 : Int), a, b, d, i⟩ s I).1) s W = ((⟨i, s.xs⟩ : St), 1, (spend W ((22 : Nat) : Int)))) := Lib.hid (by unfold go1; rw [if_pos (show (spend W (22 : Int)).okb = true from HSP.out)]; show (((⟨if s.reg a = 0 then i else s.pc + 1, s.xs⟩ : St)), (1 : Int), spend W 22) = _; rw [if_pos HZR.out]; rfl)
      have hz : (s.reg a == 0) = true := by simpa using HZR.out
      go_upto_region 61 with fail
      generalize hW : World.setCell _ _ _ = V8
      have HP8 : Hid (Pf STT N A q S6 (⟨i, s.xs⟩ : St) (spend W ((22 : Nat) : Int)) V6 V8) := Lib.hid (hW ▸ HP7.out.pc i)
      have hO8 := HP8.out.other HO.out (HB6.out.aside HO.out) (Ne.symm HAO.out)
      have hZ8 := HP8.out.other HZ.out (HB6.out.aside HZ.out) HZN.out.1
      refine wp_region_list ?_
      refine load_st Tryd.underlying33 sizeS rfl (.tmp 3) rfl A rfl (⟨i, s.xs⟩ : St) (HS.out.pc _) HP8.out.cpu ?_
      simp only [zz1, zz2, zz3, Act.put, mixA, mixL, zz9, zz0, zz4, zz5, zz6]
      refine wpList_runs rfl (some 306) rfl (runs_mv (ev rfl) ?_)
      simp only [zz1, zz2, zz3, Act.put, mixA, mixL, zz9, zz0, zz4, zz5, zz6]
      refine store_st sizeS rfl (.tmp 6) (.tmp 305) rfl O rfl (⟨i, s.xs⟩ : St) zst (HS.out.pc _) zst_ok rfl hO8 fun w9 hB9 c9 => ?_
      simp only [zz1, zz2, zz3, Act.put, mixA, mixL, zz9, zz0, zz4, zz5, zz6]
      refine wpList_runs rfl (some 7) rfl (runs_mva (ev rfl) ?_)
      simp only [zz1, zz2, zz3, Act.put, mixA, mixL, zz9, zz0, zz4, zz5, zz6]
      go_wp2
      refine ret_st Tryd.results15 (HS.out.pc _) rfl rfl hB9 ?_
      obtain ⟨hcpu8, S8, hb8, m8⟩ := HP8.out
      first | rw [HGO.out] | rw [show go1 ⟨((22 : Nat) : Int), a, b, d, i⟩ (opnd ⟨((22 : Nat) : Int), a, b, d, i⟩ s I).1 s W = _ from HGO.out]
      exact ⟨rfl, S8, hb8.chg c9 fun k hk e => by have e2 : k = O := e; subst e2; exact hb8.aside hO8 (by decide) hk, Moved.skip (Moved.skip HM6.out m8 HAL.out) ⟨c9.mono fun k hk => .inl hk, fun k hk => .inl hk⟩ HOL.out⟩
    · have HZR := Lib.hid hzr
      clear hzr
      have HGO : Hid (go1 ⟨(22 : Int), a, b, d, i⟩ ((opnd ⟨(22 : Int), a, b, d, i⟩ s I).1) s W = ((⟨s.pc + 1, s.xs⟩ : St), 1, (spend W ((22 : Nat) : Int)))) := Lib.hid (by unfold go1; rw [if_pos (show (spend W (22 : Int)).okb = true from HSP.out)]; show (((⟨if s.reg a = 0 then i else s.pc + 1, s.xs⟩ : St)), (1 : Int), spend W 22) = _; rw [if_neg HZR.out]; rfl)
      have hz : (s.reg a == 0) = false := by simpa using HZR.out
      go_upto_region 61 with fail
      have HP8 : Hid (Pf STT N A q S6 (⟨s.pc + 1, s.xs⟩ : St) (spend W ((22 : Nat) : Int)) V6 V7) := Lib.hid (HP7.out)
      have hO8 := HP8.out.other HO.out (HB6.out.aside HO.out) (Ne.symm HAO.out)
      have hZ8 := HP8.out.other HZ.out (HB6.out.aside HZ.out) HZN.out.1
      refine wp_region_list ?_
      refine load_st Tryd.underlying33 sizeS rfl (.tmp 3) rfl A rfl (⟨s.pc + 1, s.xs⟩ : St) HS7.out HP8.out.cpu ?_
      simp only [zz1, zz2, zz3, Act.put, mixA, mixL, zz9, zz0, zz4, zz5, zz6]
      refine wpList_runs rfl (some 306) rfl (runs_mv (ev rfl) ?_)
      simp only [zz1, zz2, zz3, Act.put, mixA, mixL, zz9, zz0, zz4, zz5, zz6]
      refine store_st sizeS rfl (.tmp 6) (.tmp 305) rfl O rfl (⟨s.pc + 1, s.xs⟩ : St) zst HS7.out zst_ok rfl hO8 fun w9 hB9 c9 => ?_
      simp only [zz1, zz2, zz3, Act.put, mixA, mixL, zz9, zz0, zz4, zz5, zz6]
      refine wpList_runs rfl (some 7) rfl (runs_mva (ev rfl) ?_)
      simp only [zz1, zz2, zz3, Act.put, mixA, mixL, zz9, zz0, zz4, zz5, zz6]
      go_wp2
      refine ret_st Tryd.results15 HS7.out rfl rfl hB9 ?_
      obtain ⟨hcpu8, S8, hb8, m8⟩ := HP8.out
      first | rw [HGO.out] | rw [show go1 ⟨((22 : Nat) : Int), a, b, d, i⟩ (opnd ⟨((22 : Nat) : Int), a, b, d, i⟩ s I).1 s W = _ from HGO.out]
      exact ⟨rfl, S8, hb8.chg c9 fun k hk e => by have e2 : k = O := e; subst e2; exact hb8.aside hO8 (by decide) hk, Moved.skip (Moved.skip HM6.out m8 HAL.out) ⟨c9.mono fun k hk => .inl hk, fun k hk => .inl hk⟩ HOL.out⟩
  · refine sw_no (z := 19) rfl (by decide) rfl rfl ?_
    refine wp_act (by simp only [zz1, zz2, zz3, Act.put, mixA, mixL, zz9, zz0, zz4, zz5, zz6]; rfl) ?_
    refine sw_no (z := 19) rfl (by decide) rfl rfl ?_
    refine wp_act (by simp only [zz1, zz2, zz3, Act.put, mixA, mixL, zz9, zz0, zz4, zz5, zz6]; rfl) ?_
    refine sw_no (z := 19) rfl (by decide) rfl rfl ?_
    refine wp_act (by simp only [zz1, zz2, zz3, Act.put, mixA, mixL, zz9, zz0, zz4, zz5, zz6]; rfl) ?_
    refine sw_no (z := 19) rfl (by decide) rfl rfl ?_
    refine wp_act (by simp only [zz1, zz2, zz3, Act.put, mixA, mixL, zz9, zz0, zz4, zz5, zz6]; rfl) ?_
    refine sw_no (z := 19) rfl (by decide) rfl rfl ?_
    refine wp_act (by simp only [zz1, zz2, zz3, Act.put, mixA, mixL, zz9, zz0, zz4, zz5, zz6]; rfl) ?_
    refine sw_no (z := 19) rfl (by decide) rfl rfl ?_
    refine wp_act (by simp only [zz1, zz2, zz3, Act.put, mixA, mixL, zz9, zz0, zz4, zz5, zz6]; rfl) ?_
    refine sw_no (z := 19) rfl (by decide) rfl rfl ?_
    refine wp_act (by simp only [zz1, zz2, zz3, Act.put, mixA, mixL, zz9, zz0, zz4, zz5, zz6]; rfl) ?_
    refine sw_no (z := 19) rfl (by decide) rfl rfl ?_
    refine wp_act (by simp only [zz1, zz2, zz3, Act.put, mixA, mixL, zz9, zz0, zz4, zz5, zz6]; rfl) ?_
    refine sw_no (z := 19) rfl (by decide) rfl rfl ?_
    refine wp_act (by simp only [zz1, zz2, zz3, Act.put, mixA, mixL, zz9, zz0, zz4, zz5, zz6]; rfl) ?_
    refine sw_no (z := 19) rfl (by decide) rfl rfl ?_
    refine wp_act (by simp only [zz1, zz2, zz3, Act.put, mixA, mixL, zz9, zz0, zz4, zz5, zz6]; rfl) ?_
    refine sw_yes (z := 19) rfl (by decide) rfl rfl ?_
    refine wp_act (by simp only [zz1, zz2, zz3, Act.put, mixA, mixL, zz9, zz0, zz4, zz5, zz6]; rfl) ?_
    obtain ⟨j, hj, hij⟩ : ∃ j : Nat, j < 64 ∧ (opnd ⟨(19 : Int), a, b, d, i⟩ s I).1 = (j : Int) := opnd_fr (x := ⟨(19 : Int), a, b, d, i⟩) HV.out rfl
    have hij2 : i = (j : Int) := hij
    have s9 : V7.cell? ⟨A, 9 + j, none⟩ = some (.int .i16 (s.reg (8 + j))) := by rw [HP7.out.cpu.cell, show 9 + j = 1 + (8 + j) by omega]; exact stv_at HS7.out (by omega)
    have hj8 : (j : Int) < 64 := by omega
    have HGO : Hid (go1 ⟨(19 : Int), a, b, d, i⟩ ((opnd ⟨(19 : Int), a, b, d, i⟩ s I).1) s W = ((s.to (8 + j) (s.reg a) (s.pc + 1)), 1, (spend W ((19 : Nat) : Int)))) := Lib.hid (by unfold go1; rw [if_pos (show (spend W (19 : Int)).okb = true from HSP.out), hij]; rfl)
    clear hij
    subst hij2
    go_upto_region 61 with fail
    generalize hW : World.setCell _ _ _ = V8
    have HP8 : Hid (Pf STT N A q S6 (s.to (8 + j) (s.reg a) (s.pc + 1)) (spend W ((19 : Nat) : Int)) V6 V8) := Lib.hid (by rw [show 9 + j = 1 + (8 + j) by omega] at hW; exact hW ▸ HP7.out.set (8 + j) (s.reg a))
    have hO8 := HP8.out.other HO.out (HB6.out.aside HO.out) (Ne.symm HAO.out)
    have hZ8 := HP8.out.other HZ.out (HB6.out.aside HZ.out) HZN.out.1
    refine wp_region_list ?_
    refine load_st Tryd.underlying33 sizeS rfl (.tmp 3) rfl A rfl (s.to (8 + j) (s.reg a) (s.pc + 1)) (HS.out.to (8 + j) _ (HS.out.reg a)) HP8.out.cpu ?_
    simp only [zz1, zz2, zz3, Act.put, mixA, mixL, zz9, zz0, zz4, zz5, zz6]
    refine wpList_runs rfl (some 306) rfl (runs_mv (ev rfl) ?_)
    simp only [zz1, zz2, zz3, Act.put, mixA, mixL, zz9, zz0, zz4, zz5, zz6]
    refine store_st sizeS rfl (.tmp 6) (.tmp 305) rfl O rfl (s.to (8 + j) (s.reg a) (s.pc + 1)) zst (HS.out.to (8 + j) _ (HS.out.reg a)) zst_ok rfl hO8 fun w9 hB9 c9 => ?_
    simp only [zz1, zz2, zz3, Act.put, mixA, mixL, zz9, zz0, zz4, zz5, zz6]
    refine wpList_runs rfl (some 7) rfl (runs_mva (ev rfl) ?_)
    simp only [zz1, zz2, zz3, Act.put, mixA, mixL, zz9, zz0, zz4, zz5, zz6]
    go_wp2
    refine ret_st Tryd.results15 (HS.out.to (8 + j) _ (HS.out.reg a)) rfl rfl hB9 ?_
    obtain ⟨hcpu8, S8, hb8, m8⟩ := HP8.out
    first | rw [HGO.out] | rw [show go1 ⟨((19 : Nat) : Int), a, b, d, i⟩ (opnd ⟨((19 : Nat) : Int), a, b, d, i⟩ s I).1 s W = _ from HGO.out]
    exact ⟨rfl, S8, hb8.chg c9 fun k hk e => by have e2 : k = O := e; subst e2; exact hb8.aside hO8 (by decide) hk, Moved.skip (Moved.skip HM6.out m8 HAL.out) ⟨c9.mono fun k hk => .inl hk, fun k hk => .inl hk⟩ HOL.out⟩
set_option maxHeartbeats 20000000 in
theorem rgo_e (I : Im) (r : Rest) (gp ap kp hp : Option Addr) (gc ac kc hc : Nat) (s : St) (hs : s.Ok) (W : Wd) (hWo : W.Ok) (N q : Nat) (S : Nat → Prop) (w : World) (hbus : Bus N w q W S) (hI : ImRows N w I gp ap kp gc ac kc) (hIo : I.Ok) (hl : W.cs.length ≤ 70000) (hN : N ≤ w.heap.size) (k a b d : Nat) (i : Int) (hx : I.at s.pc = some ⟨k, a, b, d, i⟩) (hv : valid ⟨k, a, b, d, i⟩ = true) (hi : I16 i) (ha : a < 8) (hb : b < 8) (hd : d < 8) (ho : (opnd ⟨k, a, b, d, i⟩ s I).2 = true) (hsp : (spend W (k : Int)).okb = true) (hk2 : k = 3 ∨ k = 14) :
    Calls Tryd.prog 15 #[.agg (stv s).toArray, .agg #[r.v0, .slice gp I.gs.length gc, .int .i64 I.sens, .int .i64 I.outs, .slice hp I.chans hc, r.v5, .slice ap I.addr.length ac, r.v7, r.v8, r.v9, r.v10, .slice kp I.code.length kc], .pointer (some ⟨q, 0, none⟩)] w fun e w' => e = .returned (.tuple #[.agg (stv (go1 ⟨k, a, b, d, i⟩ (opnd ⟨k, a, b, d, i⟩ s I).1 s W).1).toArray, .int .i64 ((go1 ⟨k, a, b, d, i⟩ (opnd ⟨k, a, b, d, i⟩ s I).1 s W).2.1)]) ∧ ∃ S', Bus N w' q ((go1 ⟨k, a, b, d, i⟩ (opnd ⟨k, a, b, d, i⟩ s I).1 s W).2.2) S' ∧ Moved No S S' w w' := by
  have HSP := Lib.hid hsp
  have HK2 := Lib.hid hk2
  clear hsp hk2
  have hxx := hx
  obtain ⟨x, hxe⟩ : ∃ x : Cd, x = ⟨k, a, b, d, i⟩ := ⟨_, rfl⟩
  have hTR : trapd I s = false := by
    unfold trapd; rw [hx]; dsimp only; rw [hv, ho]; rfl
  rw [← hxe] at hx
  obtain ⟨m, hpc, hml, hmx⟩ := Im.at_some hx
  obtain ⟨kb, ko, rfl, hkc⟩ := hI.code.cells (by omega)
  have hk0 : Atv ⟨kb, ko + m * 5, none⟩ (.int .i64 x.op) w := hkc m x hmx 0 _ rfl
  have hk1 : Atv ⟨kb, ko + m * 5 + 1, none⟩ (.int .i64 x.a) w := hkc m x hmx 1 _ rfl
  have hk2 : Atv ⟨kb, ko + m * 5 + 2, none⟩ (.int .i64 x.b) w := hkc m x hmx 2 _ rfl
  have hk3 : Atv ⟨kb, ko + m * 5 + 3, none⟩ (.int .i64 x.c) w := hkc m x hmx 3 _ rfl
  have hk4 : Atv ⟨kb, ko + m * 5 + 4, none⟩ (.int .i16 x.i) w := hkc m x hmx 4 _ rfl
  have hm0 : ¬ ((m : Nat) : Int) < 0 := by omega
  have hm1 : ¬ (I.code.length : Int) ≤ ((m : Nat) : Int) := by omega
  have hm2 : ((m : Nat) : Int) < (I.code.length : Int) := by omega
  have HPC := Lib.hid hpc
  have hm9 : (m : Int) + 1 ≤ 9223372036854775807 := by have := hIo.lc; omega
  subst hxe
  obtain ⟨hi1, hi2⟩ := hi
  have HX := Lib.hid hxx
  have HV := Lib.hid hv
  have HOP := Lib.hid ho
  have HTR := Lib.hid hTR
  have ha8 : (a : Int) < 8 := by omega
  have hb8 : (b : Int) < 8 := by omega
  have hd8 : (d : Int) < 8 := by omega
  clear hx hxx hv ho hTR hpc hml hmx hkc
  have HS := Lib.hid hs
  have HWO := Lib.hid hWo
  have HIO := Lib.hid hIo
  have HIR := Lib.hid hI
  have HBU := Lib.hid hbus
  have HL := Lib.hid hl
  have HN := Lib.hid hN
  clear hs hWo hIo hI hbus hl hN
  go_enter Tryd.func15, Tryd.ntmps15
  go_upto_region 0 with fail
  refine wp_region_list ?_
  refine wpList_box_whole rfl _ _ rfl (stv s) rfl fun w1 hB1 g1 => ?_
  simp only [zz1, zz2, zz3, Act.put, mixA, mixL, zz9, zz0, zz4, zz5, zz6]
  refine wpList_box_whole rfl _ _ rfl [r.v0, .slice gp I.gs.length gc, .int .i64 I.sens, .int .i64 I.outs, .slice hp I.chans hc, r.v5, .slice ap I.addr.length ac, r.v7, r.v8, r.v9, r.v10, .slice (some ⟨kb, ko, none⟩) I.code.length kc] rfl fun w2 bx g2 => ?_
  simp only [zz1, zz2, zz3, Act.put, mixA, mixL, zz9, zz0, zz4, zz5, zz6]
  refine alloc_st rfl rfl fun w3 hO g3 => ?_
  simp only [zz1, zz2, zz3, Act.put, mixA, mixL, zz9, zz0, zz4, zz5, zz6]
  have HG := Lib.hid ((g1.trans g2).trans g3)
  have HSB := Lib.hid ((hB1.grew g2).grew g3)
  have HBX := Lib.hid (bx.grew g3)
  have HO := Lib.hid hO
  have HAO : Hid (w.heap.size ≠ w2.heap.size) := Lib.hid (by have := (hB1.grew g2).lt; omega)
  have HOL : Hid (w.heap.size ≤ w2.heap.size) := Lib.hid (g1.trans g2).sz
  generalize w2.heap.size = O at HO hO HAO HOL ⊢
  generalize w1.heap.size = X at HBX bx ⊢
  have HAL : Hid (w.heap.size ≤ w.heap.size) := Lib.hid (Nat.le_refl _)
  obtain ⟨A, hA⟩ : ∃ A, A = w.heap.size := ⟨_, rfl⟩
  rw [← hA] at HSB HAO ⊢
  replace HAL : Hid (w.heap.size ≤ A) := Lib.hid (Nat.le_of_eq hA.symm)
  clear g1 g2 g3 hB1 bx hO hA
  go_upto_region 1 with fail
  refine wp_region_list ?_
  refine wpList_runs rfl (some 16) rfl (runs_ldm 33 (ev rfl) HSB.out.range Tryd.underlying33 rfl (by rw [sizeS, stv_len HS.out]) ?_)
  simp only [zz1, zz2, zz3, Act.put, mixA, mixL, zz9, zz0, zz4, zz5, zz6]
  refine wpList_runs rfl (some 17) rfl (runs_ldm 28 (ev rfl) HBX.out.range Tryd.underlying28 rfl (by rw [sizeI]; rfl) ?_)
  simp only [zz1, zz2, zz3, Act.put, mixA, mixL, zz9, zz0, zz4, zz5, zz6]
  refine wpList_runs rfl (some 18) rfl (runs_c2 en_trp (ev rfl) (ev rfl) ((trap_is I r gp ap _ hp gc ac kc hc s HS.out N _ (HIR.out.grew HG.out) HIO.out false HTR.out).mono ?_))
  rintro e w4 ⟨rfl, g4⟩
  refine ⟨_, rfl, ?_⟩
  simp only [zz1, zz2, zz3, Act.put, mixA, mixL, zz9, zz0, zz4, zz5, zz6]
  replace HG := Lib.hid (HG.out.trans g4)
  replace HSB := Lib.hid (HSB.out.grew g4)
  replace HBX := Lib.hid (HBX.out.grew g4)
  replace HO := Lib.hid (HO.out.grew g4)
  clear g4
  have bx := HBX.out
  have x0 := bx.cell 0
  have x1 := bx.cell 1
  have x2 := bx.cell 2
  have x3 := bx.cell 3
  have x4 := bx.cell 4
  have x5 := bx.cell 5
  have x6 := bx.cell 6
  have x7 := bx.cell 7
  have x8 := bx.cell 8
  have x9 := bx.cell 9
  have x10 := bx.cell 10
  have x11 := bx.cell 11
  simp only [zz7, zz8] at x0 x1 x2 x3 x4 x5 x6 x7 x8 x9 x10 x11
  have s0 : w4.cell? ⟨A, 0, none⟩ = some (.int .i64 ((m : Nat) : Int)) := by rw [← HPC.out]; exact HSB.out.cell 0
  have k0 := (show Atv _ _ w from hk0).grew HG.out
  have k1 := (show Atv _ _ w from hk1).grew HG.out
  have k2 := (show Atv _ _ w from hk2).grew HG.out
  have k3 := (show Atv _ _ w from hk3).grew HG.out
  have k4 := (show Atv _ _ w from hk4).grew HG.out
  go_upto_region 4 with fail
  generalize hW : World.alloc _ _ = V4
  have bc : Blk w4.heap.size [.int .i64 k, .int .i64 a, .int .i64 b, .int .i64 d, .int .i16 i] 72 V4 := by subst hW; exact Blk.new w4 _ _
  have g5 : Grew w4 V4 := by subst hW; exact (Grew.refl _).alloc _
  clear hW x0 x1 x2 x3 x4 x5 x6 x7 x8 x9 x10 x11 bx s0 k0 k1 k2 k3 k4
  have hCBne : w4.heap.size ≠ A ∧ w4.heap.size ≠ O := ⟨by have := HSB.out.lt; omega, by have := HO.out.lt; omega⟩
  replace HG := Lib.hid (HG.out.trans g5)
  replace HSB := Lib.hid (HSB.out.grew g5)
  replace HBX := Lib.hid (HBX.out.grew g5)
  replace HO := Lib.hid (HO.out.grew g5)
  have HCB := Lib.hid bc
  generalize w4.heap.size = CB at bc HCB hCBne ⊢
  have HNE := Lib.hid hCBne
  clear g5 hCBne
  have hP := Pf.start (e := STT) (c := A) HSB.out (HBU.out.grew HG.out)
  have hBX0 := HBX.out
  have c0 : Atv ⟨CB, 0, none⟩ (.int .i64 (k : Int)) V4.drew := (bc.grew (Grew.refl _).drw).atv 0 rfl
  clear bc
  refine wp_grew_tail 11 [some 26, some 27, some 28, some 29, some 30, some 31, some 32, some 33, some 34, some 35, some 36] zD3 [fun v _ => v = .pointer (some ⟨q, 0, none⟩), fun v _ => v = .pointer (some ⟨CB, 0, none⟩), fun v _ => v = .int .i64 ((k : Int)), fun v _ => v = .int .i64 ((cst (k : Int)).1), fun v _ => v = .pointer (some ⟨CB, 0, none⟩), fun v _ => v = .int .i64 ((k : Int)), fun v _ => v = .int .i64 ((cst (k : Int)).2.2), fun v _ => v = .int .i64 (((cst (k : Int)).1) - ((cst (k : Int)).2.2)), fun v _ => v = .pointer (some ⟨CB, 0, none⟩), fun v _ => v = .int .i64 ((k : Int)), fun v _ => v = .int .i64 ((cst (k : Int)).2.1)] (by kernel_rfl) (by kernel_rfl) (by kernel_rfl) rfl ?_ ⟨?_, ?_, ?_, ?_, ?_, ?_, ?_, ?_, ?_, ?_, ?_, trivial⟩ ?_
  · exact ⟨fun _ _ _ _ h => h, fun _ _ _ _ h => h, fun _ _ _ _ h => h, fun _ _ _ _ h => h, fun _ _ _ _ h => h, fun _ _ _ _ h => h, fun _ _ _ _ h => h, fun _ _ _ _ h => h, fun _ _ _ _ h => h, fun _ _ _ _ h => h, fun _ _ _ _ h => h, trivial⟩
  · intro u w hR hd; exact runs_mv (ev rfl) ⟨Grew.refl _, rfl⟩
  · intro u w hR hd; exact rn_fld_72_0 (ev rfl) ⟨Grew.refl _, rfl⟩
  · intro u w hR hd; exact rn_ld_3 (ev (hd.1 rfl)) (c0.kept hR) ⟨Grew.refl _, rfl⟩
  · intro u w hR hd; exact runs_c1 en_ren (ev (hd.1 rfl)) (callp (fun _ e => e) (renergy_any (k : Int) _))
  · intro u w hR hd; exact rn_fld_72_0 (ev rfl) ⟨Grew.refl _, rfl⟩
  · intro u w hR hd; exact rn_ld_3 (ev (hd.1 rfl)) (c0.kept hR) ⟨Grew.refl _, rfl⟩
  · intro u w hR hd; exact runs_c1 en_rwr (ev (hd.1 rfl)) (callp (fun _ e => e) (rwrites_any (k : Int) _))
  · intro u w hR hd; exact rn_sub_3 (ev (hd.1 rfl)) (ev (hd.2.1 rfl)) (by have := cst_bd (k : Int); omega) ⟨Grew.refl _, rfl⟩
  · intro u w hR hd; exact rn_fld_72_0 (ev rfl) ⟨Grew.refl _, rfl⟩
  · intro u w hR hd; exact rn_ld_3 (ev (hd.1 rfl)) (c0.kept hR) ⟨Grew.refl _, rfl⟩
  · intro u w hR hd; exact runs_c1 en_rti (ev (hd.1 rfl)) (callp (fun _ e => e) (rticks_any (k : Int) _))
  intro u w5 hR5 h
  have e0 : u 26 = .pointer (some ⟨q, 0, none⟩) := h 0 (by decide)
  have e7 : u 33 = .int .i64 ((cst (k : Int)).1 - (cst (k : Int)).2.2) := h 7 (by decide)
  have e10 : u 36 = .int .i64 (cst (k : Int)).2.1 := h 10 (by decide)
  replace hP := hP.grew ((Grew.refl V4).drw.trans hR5)
  refine wpAny_one (i := 11) (some 37) (by kernel_rfl) rfl rfl rfl (runs_c3 en_spe (ev e0) (ev e7) (ev e10) ((spend_pf hP _ _ (by have := HL.out; omega) (Nat.le_trans HN.out HG.out.sz)).mono ?_))
  rintro e w6 ⟨rfl, hP6⟩
  refine ⟨_, rfl, ?_⟩
  refine wpAny_one (i := 12) (some 38) (by kernel_rfl) rfl rfl rfl (runs_nt (ev rfl) ?_)
  refine wpAny_done (by kernel_rfl) ?_ _
  simp only [zz1, zz2, zz3, Act.put, mixA, mixL, zz9, zz0, zz4, zz5, zz6]
  simp only [Nat.zero_add, Nat.reduceAdd]
  clear h e0 e7 e10 hP hR5 c0
  generalize u 26 = z26
  generalize u 27 = z27
  generalize u 28 = z28
  generalize u 29 = z29
  generalize u 30 = z30
  generalize u 31 = z31
  generalize u 32 = z32
  generalize u 33 = z33
  generalize u 34 = z34
  generalize u 35 = z35
  generalize u 36 = z36
  have HP6 : Hid (Pf STT N A q S s (spend W (k : Int)) V4 w6) := Lib.hid hP6
  clear hP6 hBX0
  rw [show (W.call 8 ((cst (k : Int)).1 - (cst (k : Int)).2.2) (cst (k : Int)).2.1).okb = true from HSP.out]
  simp only [Bool.not_true, Exit.then]
  apply_assumption
  refine wp_cond_false rfl ?_
  go_upto_region 6 with fail
  have hz6 := HBU.out.grew HG.out
  have HO6 := HP6.out.other HO.out (hz6.aside HO.out) (Ne.symm HAO.out)
  have HXA := Lib.hid (HBX.out.ne HSB.out (by decide))
  have HCB6 := HP6.out.other HCB.out (hz6.aside HCB.out) HNE.out.1
  have HBX6 := HP6.out.other HBX.out (hz6.aside HBX.out) (HBX.out.ne HSB.out (by decide))
  obtain ⟨S6, hb6, hm6⟩ : ∃ S', Bus N w6 q (spend W (k : Int)) S' ∧ Moved No S S' w w6 := by
    obtain ⟨_, S', h2, h3⟩ := HP6.out
    exact ⟨S', h2, Moved.skip (Moved.of_grew No S HG.out) h3 HAL.out⟩
  refine wp_region_list ?_
  refine load_st Tryd.underlying33 sizeS rfl (.tmp 3) rfl A rfl s HS.out HP6.out.cpu ?_
  simp only [zz1, zz2, zz3, Act.put, mixA, mixL, zz9, zz0, zz4, zz5, zz6]
  refine alloc_st rfl rfl fun w7 hZ0 g7 => ?_
  simp only [zz1, zz2, zz3, Act.put, mixA, mixL, zz9, zz0, zz4, zz5, zz6]
  refine store_st sizeS rfl (.tmp 9) (.tmp 40) rfl w6.heap.size rfl s zst HS.out zst_ok rfl hZ0 fun V6 hZ c7 => ?_
  simp only [zz1, zz2, zz3, Act.put, mixA, mixL, zz9, zz0, zz4, zz5, zz6]
  have gV : Grew w6 V6 := grew_lift g7 c7 fun k hk => by have e : k = w6.heap.size := hk; omega
  have hZA : w6.heap.size ≠ A ∧ w6.heap.size ≠ O := ⟨by have := HP6.out.cpu.lt; omega, by have := HO6.lt; omega⟩
  have HZN := Lib.hid hZA
  have HZ := Lib.hid hZ
  have HM6 : Hid (Moved No S S6 w V6) := Lib.hid (hm6.grow gV)
  have HB6 := Lib.hid (hb6.grew gV)
  replace HO := Lib.hid (HO6.grew gV)
  replace HCB := Lib.hid (HCB6.grew gV)
  replace HBX := Lib.hid (HBX6.grew gV)
  have HP0 := Pf.start (HP6.out.cpu.grew gV) HB6.out
  have HNV : Hid (N ≤ V6.heap.size) := Lib.hid (by have := HN.out; have := HG.out.sz; have := hm6.size; have := gV.sz; omega)
  generalize w6.heap.size = Z at HZ hZ0 hZ c7 HZN hZA ⊢
  clear hz6 HO6 HCB6 HBX6 hm6 hb6 hZ0 g7 hZ c7 gV hZA HP6 HSB
  have c0 : V6.cell? ⟨CB, 0, none⟩ = some (.int .i64 (k : Int)) := HCB.out.cell 0
  have c1 : V6.cell? ⟨CB, 1, none⟩ = some (.int .i64 (a : Int)) := HCB.out.cell 1
  have c4 : V6.cell? ⟨CB, 4, none⟩ = some (.int .i16 i) := HCB.out.cell 4
  have s0 : V6.cell? ⟨A, 0, none⟩ = some (.int .i64 s.pc) := HP0.cpu.cell 0
  have sf := HP0.cpu.free
  have hp0 : 0 ≤ s.pc := by rw [HPC.out]; omega
  have hp1 : s.pc + 1 ≤ 9223372036854775807 := by rw [HPC.out]; exact hm9
  refine wpList_nil ?_
  simp only [Exit.then]
  apply_assumption
  go_upto_region 11 with fail
  generalize hW : World.setCell _ _ _ = V7
  have hP7 : Pf STT N A q S6 ⟨s.pc + 1, s.xs⟩ (spend W (k : Int)) V6 V7 := hW ▸ HP0.pc (s.pc + 1)
  have HP7 := Lib.hid hP7
  have HS7 : Hid ((⟨s.pc + 1, s.xs⟩ : St).Ok) := Lib.hid (HS.out.pc _)
  have HW7 : Hid (spend W (k : Int)).Ok := Lib.hid (HWO.out.call _ _ _)
  have HL7 : Hid ((spend W (k : Int)).cs.length ≤ 70001) := Lib.hid (by unfold spend; rw [Wd.call_len]; have := HL.out; omega)
  have hCB7 := hP7.other HCB.out (HB6.out.aside HCB.out) HNE.out.1
  have HC7 := Lib.hid hCB7
  clear hW HP0 c0 c1 c4 s0 sf hP7
  have sf := HP7.out.cpu.free
  have s0 : V7.cell? ⟨A, 0, none⟩ = some (.int .i64 (s.pc + 1)) := HP7.out.cpu.cell 0
  have sA : V7.cell? ⟨A, 1 + a, none⟩ = some (.int .i16 (s.reg a)) := by rw [HP7.out.cpu.cell]; exact stv_at HS7.out (by omega)
  have sB : V7.cell? ⟨A, 1 + b, none⟩ = some (.int .i16 (s.reg b)) := by rw [HP7.out.cpu.cell]; exact stv_at HS7.out (by omega)
  have sD : V7.cell? ⟨A, 1 + d, none⟩ = some (.int .i16 (s.reg d)) := by rw [HP7.out.cpu.cell]; exact stv_at HS7.out (by omega)
  obtain ⟨ra1, ra2⟩ : -32768 ≤ s.reg a ∧ s.reg a ≤ 32767 := HS.out.reg a
  obtain ⟨rb1, rb2⟩ : -32768 ≤ s.reg b ∧ s.reg b ≤ 32767 := HS.out.reg b
  have c0 := hCB7.cell 0
  have c1 := hCB7.cell 1
  have c2 := hCB7.cell 2
  have c3 := hCB7.cell 3
  have c4 := hCB7.cell 4
  simp only [zz7, zz8] at c0 c1 c2 c3 c4
  clear hCB7
  refine wp_region_list ?_
  refine wpList_runs rfl (some 48) rfl (rn_fld_72_0 (ev rfl) ?_)
  simp only [zz1, zz2, zz3, Act.put, mixA, mixL, zz9, zz0, zz4, zz5, zz6]
  refine wpList_runs rfl (some 49) rfl (rn_ld_3 (ev rfl) c0 ?_)
  simp only [zz1, zz2, zz3, Act.put, mixA, mixL, zz9, zz0, zz4, zz5, zz6]
  refine wpList_nil ?_
  refine then_ok ?_
  apply_assumption
  refine wp_block ?_
  rcases HK2.out with rfl | rfl
  · refine sw_no (z := 3) rfl (by decide) rfl rfl ?_
    refine wp_act (by simp only [zz1, zz2, zz3, Act.put, mixA, mixL, zz9, zz0, zz4, zz5, zz6]; rfl) ?_
    refine sw_no (z := 3) rfl (by decide) rfl rfl ?_
    refine wp_act (by simp only [zz1, zz2, zz3, Act.put, mixA, mixL, zz9, zz0, zz4, zz5, zz6]; rfl) ?_
    refine sw_yes (z := 3) rfl (by decide) rfl rfl ?_
    refine wp_act (by simp only [zz1, zz2, zz3, Act.put, mixA, mixL, zz9, zz0, zz4, zz5, zz6]; rfl) ?_
    have HGO : Hid (go1 ⟨(3 : Int), a, b, d, i⟩ ((opnd ⟨(3 : Int), a, b, d, i⟩ s I).1) s W = ((s.to a (s.reg b) (s.pc + 1)), 1, (spend W ((3 : Nat) : Int)))) := Lib.hid (by unfold go1; rw [if_pos (show (spend W (3 : Int)).okb = true from HSP.out)]; rfl)
    go_upto_region 20 with fail
    have hgd : Grew V7 V7.drew := (Grew.refl _).drw
    have HP9 := Lib.hid (HP7.out.grew hgd)
    have hK := HC7.out.grew hgd
    clear s0 sf sA sB sD c0 c1 c2 c3 c4 hgd
    refine wp_region_held_drew (S := fun W9 => Blk CB [.int .i64 ((3 : Nat) : Int), .int .i64 a, .int .i64 b, .int .i64 d, .int .i16 i] 72 W9) (by kernel_rfl) hK fun _ => ?_
    refine wpAnyH_take (i := 0) (v := .pointer (some ⟨CB, 1, none⟩)) rfl (by kernel_rfl) (by kernel_rfl) (by kernel_rfl) (fun _ _ _ h => nomatch h.2.1) (Or.inl ⟨by rfl, fun W9 h9 => by simp only [execOp]; go_simp⟩) hK ?_
    simp only [zz1, zz2, zz3, Act.put, mixA, mixL, zz9, zz0, zz4, zz5, zz6]
    refine wpAnyH_take (i := 1) (v := .int .i64 (((a : Nat) : Int))) rfl (by kernel_rfl) (by kernel_rfl) (by kernel_rfl) (fun _ _ _ h => nomatch h.2.1) (Or.inl ⟨by rfl, fun W9 h9 => by have q9 := h9.cell 1; simp only [zz7, zz8] at q9; simp only [execOp]; go_simp⟩) hK ?_
    simp only [zz1, zz2, zz3, Act.put, mixA, mixL, zz9, zz0, zz4, zz5, zz6]
    refine wpAnyH_take (i := 2) (v := .pointer (some ⟨CB, 2, none⟩)) rfl (by kernel_rfl) (by kernel_rfl) (by kernel_rfl) (fun _ _ _ h => nomatch h.2.1) (Or.inl ⟨by rfl, fun W9 h9 => by simp only [execOp]; go_simp⟩) hK ?_
    simp only [zz1, zz2, zz3, Act.put, mixA, mixL, zz9, zz0, zz4, zz5, zz6]
    refine wpAnyH_take (i := 3) (v := .int .i64 (((b : Nat) : Int))) rfl (by kernel_rfl) (by kernel_rfl) (by kernel_rfl) (fun _ _ _ h => nomatch h.2.1) (Or.inl ⟨by rfl, fun W9 h9 => by have q9 := h9.cell 2; simp only [zz7, zz8] at q9; simp only [execOp]; go_simp⟩) hK ?_
    simp only [zz1, zz2, zz3, Act.put, mixA, mixL, zz9, zz0, zz4, zz5, zz6]
    refine wpAnyH_take (i := 4) (v := .pointer (some ⟨A, 1, none⟩)) rfl (by kernel_rfl) (by kernel_rfl) (by kernel_rfl) (fun _ _ _ h => nomatch h.2.1) (Or.inl ⟨by rfl, fun W9 h9 => by simp only [execOp]; go_simp⟩) hK ?_
    simp only [zz1, zz2, zz3, Act.put, mixA, mixL, zz9, zz0, zz4, zz5, zz6]
    refine wpAnyH_take (i := 5) (v := .pointer (some ⟨A, 1 + b, none⟩)) rfl (by kernel_rfl) (by kernel_rfl) (by kernel_rfl) (fun _ _ _ h => nomatch h.2.1) (Or.inl ⟨by rfl, fun W9 h9 => by simp only [execOp]; go_simp⟩) hK ?_
    simp only [zz1, zz2, zz3, Act.put, mixA, mixL, zz9, zz0, zz4, zz5, zz6]
    refine wpAnyH_take (i := 7) (v := .pointer (some ⟨A, 1, none⟩)) rfl (by kernel_rfl) (by kernel_rfl) (by kernel_rfl) (fun _ _ _ h => nomatch h.2.1) (Or.inl ⟨by rfl, fun W9 h9 => by simp only [execOp]; go_simp⟩) hK ?_
    simp only [zz1, zz2, zz3, Act.put, mixA, mixL, zz9, zz0, zz4, zz5, zz6]
    refine wpAnyH_go [6] (by kernel_rfl) (by simp) ⟨⟨_, rfl, rfl, ?_⟩, trivial⟩
    refine rn_ld_29 (q := ⟨A, 1 + b, none⟩) (v := .int .i16 (s.reg b)) (ev rfl) (by rw [HP9.out.cpu.cell]; exact stv_at HS7.out (by omega)) ?_
    refine ⟨hK, ?_⟩
    simp only [zz1, zz2, zz3, Act.put, mixA, mixL, zz9, zz0, zz4, zz5, zz6]
    refine wpAnyH_take (i := 8) (v := .pointer (some ⟨A, 1 + a, none⟩)) rfl (by kernel_rfl) (by kernel_rfl) (by kernel_rfl) (fun _ _ _ h => nomatch h.2.1) (Or.inl ⟨by rfl, fun W9 h9 => by simp only [execOp]; go_simp⟩) hK ?_
    simp only [zz1, zz2, zz3, Act.put, mixA, mixL, zz9, zz0, zz4, zz5, zz6]
    refine wpAnyH_go [9] (by kernel_rfl) (by simp) ⟨⟨_, rfl, rfl, ?_⟩, trivial⟩
    refine rn_st_29 (q := ⟨A, 1 + a, none⟩) (z := s.reg b) (v' := .int .i16 (s.reg a)) (ev rfl) (ev rfl) (by rw [HP9.out.cpu.cell]; exact stv_at HS7.out (by omega)) (HP9.out.cpu.free _) ?_
    have hKs := hK.other A (1 + a) (.int .i16 (s.reg b)) HNE.out.1
    have HPs : Hid (Pf STT N A q S6 (s.to a (s.reg b) (s.pc + 1)) (spend W ((3 : Nat) : Int)) V6 (World.setCell _ ⟨A, 1 + a, none⟩ (.int .i16 (s.reg b)))) := Lib.hid (HP9.out.set a (s.reg b))
    generalize World.setCell _ _ _ = Vs at hKs HPs ⊢
    refine ⟨hKs, ?_⟩
    clear hK HP9
    have hK := hKs
    have HP9 := Lib.hid HPs.out
    clear hKs HPs
    simp only [zz1, zz2, zz3, Act.put, mixA, mixL, zz9, zz0, zz4, zz5, zz6]
    refine wpAnyH_done (by kernel_rfl) ?_ _
    try simp only [zz1, zz2, zz3, Act.put, mixA, mixL, zz9, zz0, zz4, zz5, zz6]
    go_upto_region 61 with fail
    have hO8 := HP9.out.other HO.out (HB6.out.aside HO.out) (Ne.symm HAO.out)
    have hZ8 := HP9.out.other HZ.out (HB6.out.aside HZ.out) HZN.out.1
    refine wp_region_list ?_
    refine load_st Tryd.underlying33 sizeS rfl (.tmp 3) rfl A rfl (s.to a (s.reg b) (s.pc + 1)) (HS.out.to a _ (HS.out.reg b)) HP9.out.cpu ?_
    simp only [zz1, zz2, zz3, Act.put, mixA, mixL, zz9, zz0, zz4, zz5, zz6]
    refine wpList_runs rfl (some 306) rfl (runs_mv (ev rfl) ?_)
    simp only [zz1, zz2, zz3, Act.put, mixA, mixL, zz9, zz0, zz4, zz5, zz6]
    refine store_st sizeS rfl (.tmp 6) (.tmp 305) rfl O rfl (s.to a (s.reg b) (s.pc + 1)) zst (HS.out.to a _ (HS.out.reg b)) zst_ok rfl hO8 fun w9 hB9 c9 => ?_
    simp only [zz1, zz2, zz3, Act.put, mixA, mixL, zz9, zz0, zz4, zz5, zz6]
    refine wpList_runs rfl (some 7) rfl (runs_mva (ev rfl) ?_)
    simp only [zz1, zz2, zz3, Act.put, mixA, mixL, zz9, zz0, zz4, zz5, zz6]
    go_wp2
    refine ret_st Tryd.results15 (HS.out.to a _ (HS.out.reg b)) rfl rfl hB9 ?_
    obtain ⟨hcpu8, S8, hb8, m8⟩ := HP9.out
    first | rw [HGO.out] | rw [show go1 ⟨((3 : Nat) : Int), a, b, d, i⟩ (opnd ⟨((3 : Nat) : Int), a, b, d, i⟩ s I).1 s W = _ from HGO.out]
    exact ⟨rfl, S8, hb8.chg c9 fun k hk e => by have e2 : k = O := e; subst e2; exact hb8.aside hO8 (by decide) hk, Moved.skip (Moved.skip HM6.out m8 HAL.out) ⟨c9.mono fun k hk => .inl hk, fun k hk => .inl hk⟩ HOL.out⟩
  · refine sw_no (z := 14) rfl (by decide) rfl rfl ?_
    refine wp_act (by simp only [zz1, zz2, zz3, Act.put, mixA, mixL, zz9, zz0, zz4, zz5, zz6]; rfl) ?_
    refine sw_no (z := 14) rfl (by decide) rfl rfl ?_
    refine wp_act (by simp only [zz1, zz2, zz3, Act.put, mixA, mixL, zz9, zz0, zz4, zz5, zz6]; rfl) ?_
    refine sw_no (z := 14) rfl (by decide) rfl rfl ?_
    refine wp_act (by simp only [zz1, zz2, zz3, Act.put, mixA, mixL, zz9, zz0, zz4, zz5, zz6]; rfl) ?_
    refine sw_no (z := 14) rfl (by decide) rfl rfl ?_
    refine wp_act (by simp only [zz1, zz2, zz3, Act.put, mixA, mixL, zz9, zz0, zz4, zz5, zz6]; rfl) ?_
    refine sw_no (z := 14) rfl (by decide) rfl rfl ?_
    refine wp_act (by simp only [zz1, zz2, zz3, Act.put, mixA, mixL, zz9, zz0, zz4, zz5, zz6]; rfl) ?_
    refine sw_yes (z := 14) rfl (by decide) rfl rfl ?_
    refine wp_act (by simp only [zz1, zz2, zz3, Act.put, mixA, mixL, zz9, zz0, zz4, zz5, zz6]; rfl) ?_
    have HD : Hid (dat i = true) := Lib.hid HOP.out
    have HGO0 : Hid (go1 ⟨(14 : Int), a, b, d, i⟩ ((opnd ⟨(14 : Int), a, b, d, i⟩ s I).1) s W = if ((spend W ((14 : Nat) : Int)).load i).2.1 then ((s.to a (((spend W ((14 : Nat) : Int)).load i).1) (s.pc + 1)), 1, ((spend W ((14 : Nat) : Int)).load i).2.2) else (s, 4, ((spend W ((14 : Nat) : Int)).load i).2.2)) := Lib.hid (by unfold go1; rw [if_pos (show (spend W (14 : Int)).okb = true from HSP.out)]; rfl)
    go_upto_region 26 with fail
    have hgd : Grew V7 V7.drew := (Grew.refl _).drw
    have HP9 := Lib.hid (HP7.out.grew hgd)
    have hK := HC7.out.grew hgd
    clear s0 sf sA sB sD c0 c1 c2 c3 c4 hgd
    refine wp_region_held_drew (S := fun W9 => Blk CB [.int .i64 ((14 : Nat) : Int), .int .i64 a, .int .i64 b, .int .i64 d, .int .i16 i] 72 W9) (by kernel_rfl) hK fun _ => ?_
    refine wpAnyH_take (i := 0) (v := .pointer (some ⟨CB, 1, none⟩)) rfl (by kernel_rfl) (by kernel_rfl) (by kernel_rfl) (fun _ _ _ h => nomatch h.2.1) (Or.inl ⟨by rfl, fun W9 h9 => by simp only [execOp]; go_simp⟩) hK ?_
    simp only [zz1, zz2, zz3, Act.put, mixA, mixL, zz9, zz0, zz4, zz5, zz6]
    refine wpAnyH_take (i := 1) (v := .int .i64 (((a : Nat) : Int))) rfl (by kernel_rfl) (by kernel_rfl) (by kernel_rfl) (fun _ _ _ h => nomatch h.2.1) (Or.inl ⟨by rfl, fun W9 h9 => by have q9 := h9.cell 1; simp only [zz7, zz8] at q9; simp only [execOp]; go_simp⟩) hK ?_
    simp only [zz1, zz2, zz3, Act.put, mixA, mixL, zz9, zz0, zz4, zz5, zz6]
    refine wpAnyH_take (i := 2) (v := .pointer (some ⟨q, 0, none⟩)) rfl (by kernel_rfl) (by kernel_rfl) (by kernel_rfl) (fun _ _ _ h => nomatch h.2.1) (Or.inl ⟨by rfl, fun W9 h9 => by simp only [execOp]; go_simp⟩) hK ?_
    simp only [zz1, zz2, zz3, Act.put, mixA, mixL, zz9, zz0, zz4, zz5, zz6]
    refine wpAnyH_take (i := 3) (v := .int .i64 (i)) rfl (by kernel_rfl) (by kernel_rfl) (by kernel_rfl) (fun _ _ _ h => nomatch h.2.1) (Or.inl ⟨by rfl, fun W9 h9 => by simp only [execOp]; go_simp⟩) hK ?_
    simp only [zz1, zz2, zz3, Act.put, mixA, mixL, zz9, zz0, zz4, zz5, zz6]
    refine wpAnyH_take (i := 8) (v := .pointer (some ⟨A, 1, none⟩)) rfl (by kernel_rfl) (by kernel_rfl) (by kernel_rfl) (fun _ _ _ h => nomatch h.2.1) (Or.inl ⟨by rfl, fun W9 h9 => by simp only [execOp]; go_simp⟩) hK ?_
    simp only [zz1, zz2, zz3, Act.put, mixA, mixL, zz9, zz0, zz4, zz5, zz6]
    refine wpAnyH_go [4] (by kernel_rfl) (by simp) ⟨⟨_, rfl, rfl, ?_⟩, trivial⟩
    refine runs_c2 en_ld (ev rfl) (ev rfl) ((load_pf HP9.out i HD.out (by have := HL7.out; omega) HNV.out).mono ?_)
    rintro r8 w8 ⟨rfl, hP8⟩
    have hK8 := hP8.other HCB.out (HB6.out.aside HCB.out) HNE.out.1
    refine ⟨_, rfl, hK8, ?_⟩
    clear hK HP9
    have hK := hK8
    have HP9 := Lib.hid hP8
    clear hK8 hP8
    simp only [zz1, zz2, zz3, Act.put, mixA, mixL, zz9, zz0, zz4, zz5, zz6]
    refine wpAnyH_take (i := 5) (v := .tuple #[.int .i16 (((spend W ((14 : Nat) : Int)).load i).1), .bool (((spend W ((14 : Nat) : Int)).load i).2.1)]) rfl (by kernel_rfl) (by kernel_rfl) (by kernel_rfl) (fun _ _ _ h => nomatch h.2.1) (Or.inl ⟨by rfl, fun W9 h9 => by simp only [execOp]; go_simp⟩) hK ?_
    simp only [zz1, zz2, zz3, Act.put, mixA, mixL, zz9, zz0, zz4, zz5, zz6]
    refine wpAnyH_take (i := 6) (v := .int .i16 (((spend W ((14 : Nat) : Int)).load i).1)) rfl (by kernel_rfl) (by kernel_rfl) (by kernel_rfl) (fun _ _ _ h => nomatch h.2.1) (Or.inl ⟨by rfl, fun W9 h9 => by simp only [execOp]; go_simp⟩) hK ?_
    simp only [zz1, zz2, zz3, Act.put, mixA, mixL, zz9, zz0, zz4, zz5, zz6]
    refine wpAnyH_take (i := 7) (v := .bool (((spend W ((14 : Nat) : Int)).load i).2.1)) rfl (by kernel_rfl) (by kernel_rfl) (by kernel_rfl) (fun _ _ _ h => nomatch h.2.1) (Or.inl ⟨by rfl, fun W9 h9 => by simp only [execOp]; go_simp⟩) hK ?_
    simp only [zz1, zz2, zz3, Act.put, mixA, mixL, zz9, zz0, zz4, zz5, zz6]
    refine wpAnyH_take (i := 9) (v := .pointer (some ⟨A, 1 + a, none⟩)) rfl (by kernel_rfl) (by kernel_rfl) (by kernel_rfl) (fun _ _ _ h => nomatch h.2.1) (Or.inl ⟨by rfl, fun W9 h9 => by simp only [execOp]; go_simp⟩) hK ?_
    simp only [zz1, zz2, zz3, Act.put, mixA, mixL, zz9, zz0, zz4, zz5, zz6]
    refine wpAnyH_go [10] (by kernel_rfl) (by simp) ⟨⟨_, rfl, rfl, ?_⟩, trivial⟩
    refine rn_st_29 (q := ⟨A, 1 + a, none⟩) (z := ((spend W ((14 : Nat) : Int)).load i).1) (v' := .int .i16 (s.reg a)) (ev rfl) (ev rfl) (by rw [HP9.out.cpu.cell]; exact stv_at HS7.out (by omega)) (HP9.out.cpu.free _) ?_
    have hKs := hK.other A (1 + a) (.int .i16 (((spend W ((14 : Nat) : Int)).load i).1)) HNE.out.1
    have HPs : Hid (Pf STT N A q S6 (s.to a (((spend W ((14 : Nat) : Int)).load i).1) (s.pc + 1)) ((spend W ((14 : Nat) : Int)).load i).2.2 V6 (World.setCell _ ⟨A, 1 + a, none⟩ (.int .i16 (((spend W ((14 : Nat) : Int)).load i).1)))) := Lib.hid (HP9.out.set a (((spend W ((14 : Nat) : Int)).load i).1))
    generalize World.setCell _ _ _ = Vs at hKs HPs ⊢
    refine ⟨hKs, ?_⟩
    clear hK HP9
    have hK := hKs
    have HP9 := Lib.hid HPs.out
    clear hKs HPs
    simp only [zz1, zz2, zz3, Act.put, mixA, mixL, zz9, zz0, zz4, zz5, zz6]
    refine wpAnyH_take (i := 11) (v := .bool (((spend W ((14 : Nat) : Int)).load i).2.1)) rfl (by kernel_rfl) (by kernel_rfl) (by kernel_rfl) (fun _ _ _ h => nomatch h.2.1) (Or.inl ⟨by rfl, fun W9 h9 => by simp only [execOp]; go_simp⟩) hK ?_
    simp only [zz1, zz2, zz3, Act.put, mixA, mixL, zz9, zz0, zz4, zz5, zz6]
    refine wpAnyH_done (by kernel_rfl) ?_ _
    try simp only [zz1, zz2, zz3, Act.put, mixA, mixL, zz9, zz0, zz4, zz5, zz6]
    go_upto_region 59 with fail
    cases hok : ((spend W ((14 : Nat) : Int)).load i).2.1 with
    | true =>
      have HGO := Lib.hid (HGO0.out.trans (if_pos hok))
      clear hok
      go_upto_region 61 with fail
      have hO8 := HP9.out.other HO.out (HB6.out.aside HO.out) (Ne.symm HAO.out)
      have hZ8 := HP9.out.other HZ.out (HB6.out.aside HZ.out) HZN.out.1
      refine wp_region_list ?_
      refine load_st Tryd.underlying33 sizeS rfl (.tmp 3) rfl A rfl (s.to a (((spend W ((14 : Nat) : Int)).load i).1) (s.pc + 1)) (HS.out.to a _ (HW7.out.word _)) HP9.out.cpu ?_
      simp only [zz1, zz2, zz3, Act.put, mixA, mixL, zz9, zz0, zz4, zz5, zz6]
      refine wpList_runs rfl (some 306) rfl (runs_mv (ev rfl) ?_)
      simp only [zz1, zz2, zz3, Act.put, mixA, mixL, zz9, zz0, zz4, zz5, zz6]
      refine store_st sizeS rfl (.tmp 6) (.tmp 305) rfl O rfl (s.to a (((spend W ((14 : Nat) : Int)).load i).1) (s.pc + 1)) zst (HS.out.to a _ (HW7.out.word _)) zst_ok rfl hO8 fun w9 hB9 c9 => ?_
      simp only [zz1, zz2, zz3, Act.put, mixA, mixL, zz9, zz0, zz4, zz5, zz6]
      refine wpList_runs rfl (some 7) rfl (runs_mva (ev rfl) ?_)
      simp only [zz1, zz2, zz3, Act.put, mixA, mixL, zz9, zz0, zz4, zz5, zz6]
      go_wp2
      refine ret_st Tryd.results15 (HS.out.to a _ (HW7.out.word _)) rfl rfl hB9 ?_
      obtain ⟨hcpu8, S8, hb8, m8⟩ := HP9.out
      first | rw [HGO.out] | rw [show go1 ⟨((14 : Nat) : Int), a, b, d, i⟩ (opnd ⟨((14 : Nat) : Int), a, b, d, i⟩ s I).1 s W = _ from HGO.out]
      exact ⟨rfl, S8, hb8.chg c9 fun k hk e => by have e2 : k = O := e; subst e2; exact hb8.aside hO8 (by decide) hk, Moved.skip (Moved.skip HM6.out m8 HAL.out) ⟨c9.mono fun k hk => .inl hk, fun k hk => .inl hk⟩ HOL.out⟩
    | false =>
      have HGO := Lib.hid (HGO0.out.trans (if_neg (by rw [hok]; decide)))
      clear hok
      go_upto_region 60 with fail
      have hO8 := HP9.out.other HO.out (HB6.out.aside HO.out) (Ne.symm HAO.out)
      have hZ8 := HP9.out.other HZ.out (HB6.out.aside HZ.out) HZN.out.1
      refine wp_region_list ?_
      refine load_st Tryd.underlying33 sizeS rfl (.tmp 9) rfl Z rfl s HS.out hZ8 ?_
      simp only [zz1, zz2, zz3, Act.put, mixA, mixL, zz9, zz0, zz4, zz5, zz6]
      refine store_st sizeS rfl (.tmp 6) (.tmp 304) rfl O rfl s zst HS.out zst_ok rfl hO8 fun w9 hB9 c9 => ?_
      simp only [zz1, zz2, zz3, Act.put, mixA, mixL, zz9, zz0, zz4, zz5, zz6]
      refine wpList_runs rfl (some 7) rfl (runs_mva (v := .int .i64 4) rfl ?_)
      simp only [zz1, zz2, zz3, Act.put, mixA, mixL, zz9, zz0, zz4, zz5, zz6]
      go_wp2
      refine ret_st Tryd.results15 HS.out rfl rfl hB9 ?_
      obtain ⟨hcpu8, S8, hb8, m8⟩ := HP9.out
      first | rw [HGO.out] | rw [show go1 ⟨((14 : Nat) : Int), a, b, d, i⟩ (opnd ⟨((14 : Nat) : Int), a, b, d, i⟩ s I).1 s W = _ from HGO.out]
      exact ⟨rfl, S8, hb8.chg c9 fun k hk e => by have e2 : k = O := e; subst e2; exact hb8.aside hO8 (by decide) hk, Moved.skip (Moved.skip HM6.out m8 HAL.out) ⟨c9.mono fun k hk => .inl hk, fun k hk => .inl hk⟩ HOL.out⟩
set_option maxHeartbeats 20000000 in
theorem rgo_f (I : Im) (r : Rest) (gp ap kp hp : Option Addr) (gc ac kc hc : Nat) (s : St) (hs : s.Ok) (W : Wd) (hWo : W.Ok) (N q : Nat) (S : Nat → Prop) (w : World) (hbus : Bus N w q W S) (hI : ImRows N w I gp ap kp gc ac kc) (hIo : I.Ok) (hl : W.cs.length ≤ 70000) (hN : N ≤ w.heap.size) (k a b d : Nat) (i : Int) (hx : I.at s.pc = some ⟨k, a, b, d, i⟩) (hv : valid ⟨k, a, b, d, i⟩ = true) (hi : I16 i) (ha : a < 8) (hb : b < 8) (hd : d < 8) (ho : (opnd ⟨k, a, b, d, i⟩ s I).2 = true) (hsp : (spend W (k : Int)).okb = true) (hk2 : k = 23) :
    Calls Tryd.prog 15 #[.agg (stv s).toArray, .agg #[r.v0, .slice gp I.gs.length gc, .int .i64 I.sens, .int .i64 I.outs, .slice hp I.chans hc, r.v5, .slice ap I.addr.length ac, r.v7, r.v8, r.v9, r.v10, .slice kp I.code.length kc], .pointer (some ⟨q, 0, none⟩)] w fun e w' => e = .returned (.tuple #[.agg (stv (go1 ⟨k, a, b, d, i⟩ (opnd ⟨k, a, b, d, i⟩ s I).1 s W).1).toArray, .int .i64 ((go1 ⟨k, a, b, d, i⟩ (opnd ⟨k, a, b, d, i⟩ s I).1 s W).2.1)]) ∧ ∃ S', Bus N w' q ((go1 ⟨k, a, b, d, i⟩ (opnd ⟨k, a, b, d, i⟩ s I).1 s W).2.2) S' ∧ Moved No S S' w w' := by
  have HSP := Lib.hid hsp
  have HK2 := Lib.hid hk2
  clear hsp hk2
  have hxx := hx
  obtain ⟨x, hxe⟩ : ∃ x : Cd, x = ⟨k, a, b, d, i⟩ := ⟨_, rfl⟩
  have hTR : trapd I s = false := by
    unfold trapd; rw [hx]; dsimp only; rw [hv, ho]; rfl
  rw [← hxe] at hx
  obtain ⟨m, hpc, hml, hmx⟩ := Im.at_some hx
  obtain ⟨kb, ko, rfl, hkc⟩ := hI.code.cells (by omega)
  have hk0 : Atv ⟨kb, ko + m * 5, none⟩ (.int .i64 x.op) w := hkc m x hmx 0 _ rfl
  have hk1 : Atv ⟨kb, ko + m * 5 + 1, none⟩ (.int .i64 x.a) w := hkc m x hmx 1 _ rfl
  have hk2 : Atv ⟨kb, ko + m * 5 + 2, none⟩ (.int .i64 x.b) w := hkc m x hmx 2 _ rfl
  have hk3 : Atv ⟨kb, ko + m * 5 + 3, none⟩ (.int .i64 x.c) w := hkc m x hmx 3 _ rfl
  have hk4 : Atv ⟨kb, ko + m * 5 + 4, none⟩ (.int .i16 x.i) w := hkc m x hmx 4 _ rfl
  have hm0 : ¬ ((m : Nat) : Int) < 0 := by omega
  have hm1 : ¬ (I.code.length : Int) ≤ ((m : Nat) : Int) := by omega
  have hm2 : ((m : Nat) : Int) < (I.code.length : Int) := by omega
  have HPC := Lib.hid hpc
  have hm9 : (m : Int) + 1 ≤ 9223372036854775807 := by have := hIo.lc; omega
  subst hxe
  obtain ⟨hi1, hi2⟩ := hi
  have HX := Lib.hid hxx
  have HV := Lib.hid hv
  have HOP := Lib.hid ho
  have HTR := Lib.hid hTR
  have ha8 : (a : Int) < 8 := by omega
  have hb8 : (b : Int) < 8 := by omega
  have hd8 : (d : Int) < 8 := by omega
  clear hx hxx hv ho hTR hpc hml hmx hkc
  have HS := Lib.hid hs
  have HWO := Lib.hid hWo
  have HIO := Lib.hid hIo
  have HIR := Lib.hid hI
  have HBU := Lib.hid hbus
  have HL := Lib.hid hl
  have HN := Lib.hid hN
  clear hs hWo hIo hI hbus hl hN
  go_enter Tryd.func15, Tryd.ntmps15
  go_upto_region 0 with fail
  refine wp_region_list ?_
  refine wpList_box_whole rfl _ _ rfl (stv s) rfl fun w1 hB1 g1 => ?_
  simp only [zz1, zz2, zz3, Act.put, mixA, mixL, zz9, zz0, zz4, zz5, zz6]
  refine wpList_box_whole rfl _ _ rfl [r.v0, .slice gp I.gs.length gc, .int .i64 I.sens, .int .i64 I.outs, .slice hp I.chans hc, r.v5, .slice ap I.addr.length ac, r.v7, r.v8, r.v9, r.v10, .slice (some ⟨kb, ko, none⟩) I.code.length kc] rfl fun w2 bx g2 => ?_
  simp only [zz1, zz2, zz3, Act.put, mixA, mixL, zz9, zz0, zz4, zz5, zz6]
  refine alloc_st rfl rfl fun w3 hO g3 => ?_
  simp only [zz1, zz2, zz3, Act.put, mixA, mixL, zz9, zz0, zz4, zz5, zz6]
  have HG := Lib.hid ((g1.trans g2).trans g3)
  have HSB := Lib.hid ((hB1.grew g2).grew g3)
  have HBX := Lib.hid (bx.grew g3)
  have HO := Lib.hid hO
  have HAO : Hid (w.heap.size ≠ w2.heap.size) := Lib.hid (by have := (hB1.grew g2).lt; omega)
  have HOL : Hid (w.heap.size ≤ w2.heap.size) := Lib.hid (g1.trans g2).sz
  generalize w2.heap.size = O at HO hO HAO HOL ⊢
  generalize w1.heap.size = X at HBX bx ⊢
  have HAL : Hid (w.heap.size ≤ w.heap.size) := Lib.hid (Nat.le_refl _)
  obtain ⟨A, hA⟩ : ∃ A, A = w.heap.size := ⟨_, rfl⟩
  rw [← hA] at HSB HAO ⊢
  replace HAL : Hid (w.heap.size ≤ A) := Lib.hid (Nat.le_of_eq hA.symm)
  clear g1 g2 g3 hB1 bx hO hA
  go_upto_region 1 with fail
  refine wp_region_list ?_
  refine wpList_runs rfl (some 16) rfl (runs_ldm 33 (ev rfl) HSB.out.range Tryd.underlying33 rfl (by rw [sizeS, stv_len HS.out]) ?_)
  simp only [zz1, zz2, zz3, Act.put, mixA, mixL, zz9, zz0, zz4, zz5, zz6]
  refine wpList_runs rfl (some 17) rfl (runs_ldm 28 (ev rfl) HBX.out.range Tryd.underlying28 rfl (by rw [sizeI]; rfl) ?_)
  simp only [zz1, zz2, zz3, Act.put, mixA, mixL, zz9, zz0, zz4, zz5, zz6]
  refine wpList_runs rfl (some 18) rfl (runs_c2 en_trp (ev rfl) (ev rfl) ((trap_is I r gp ap _ hp gc ac kc hc s HS.out N _ (HIR.out.grew HG.out) HIO.out false HTR.out).mono ?_))
  rintro e w4 ⟨rfl, g4⟩
  refine ⟨_, rfl, ?_⟩
  simp only [zz1, zz2, zz3, Act.put, mixA, mixL, zz9, zz0, zz4, zz5, zz6]
  replace HG := Lib.hid (HG.out.trans g4)
  replace HSB := Lib.hid (HSB.out.grew g4)
  replace HBX := Lib.hid (HBX.out.grew g4)
  replace HO := Lib.hid (HO.out.grew g4)
  clear g4
  have bx := HBX.out
  have x0 := bx.cell 0
  have x1 := bx.cell 1
  have x2 := bx.cell 2
  have x3 := bx.cell 3
  have x4 := bx.cell 4
  have x5 := bx.cell 5
  have x6 := bx.cell 6
  have x7 := bx.cell 7
  have x8 := bx.cell 8
  have x9 := bx.cell 9
  have x10 := bx.cell 10
  have x11 := bx.cell 11
  simp only [zz7, zz8] at x0 x1 x2 x3 x4 x5 x6 x7 x8 x9 x10 x11
  have s0 : w4.cell? ⟨A, 0, none⟩ = some (.int .i64 ((m : Nat) : Int)) := by rw [← HPC.out]; exact HSB.out.cell 0
  have k0 := (show Atv _ _ w from hk0).grew HG.out
  have k1 := (show Atv _ _ w from hk1).grew HG.out
  have k2 := (show Atv _ _ w from hk2).grew HG.out
  have k3 := (show Atv _ _ w from hk3).grew HG.out
  have k4 := (show Atv _ _ w from hk4).grew HG.out
  go_upto_region 4 with fail
  generalize hW : World.alloc _ _ = V4
  have bc : Blk w4.heap.size [.int .i64 k, .int .i64 a, .int .i64 b, .int .i64 d, .int .i16 i] 72 V4 := by subst hW; exact Blk.new w4 _ _
  have g5 : Grew w4 V4 := by subst hW; exact (Grew.refl _).alloc _
  clear hW x0 x1 x2 x3 x4 x5 x6 x7 x8 x9 x10 x11 bx s0 k0 k1 k2 k3 k4
  have hCBne : w4.heap.size ≠ A ∧ w4.heap.size ≠ O := ⟨by have := HSB.out.lt; omega, by have := HO.out.lt; omega⟩
  replace HG := Lib.hid (HG.out.trans g5)
  replace HSB := Lib.hid (HSB.out.grew g5)
  replace HBX := Lib.hid (HBX.out.grew g5)
  replace HO := Lib.hid (HO.out.grew g5)
  have HCB := Lib.hid bc
  generalize w4.heap.size = CB at bc HCB hCBne ⊢
  have HNE := Lib.hid hCBne
  clear g5 hCBne
  have hP := Pf.start (e := STT) (c := A) HSB.out (HBU.out.grew HG.out)
  have hBX0 := HBX.out
  have c0 : Atv ⟨CB, 0, none⟩ (.int .i64 (k : Int)) V4.drew := (bc.grew (Grew.refl _).drw).atv 0 rfl
  clear bc
  refine wp_grew_tail 11 [some 26, some 27, some 28, some 29, some 30, some 31, some 32, some 33, some 34, some 35, some 36] zD3 [fun v _ => v = .pointer (some ⟨q, 0, none⟩), fun v _ => v = .pointer (some ⟨CB, 0, none⟩), fun v _ => v = .int .i64 ((k : Int)), fun v _ => v = .int .i64 ((cst (k : Int)).1), fun v _ => v = .pointer (some ⟨CB, 0, none⟩), fun v _ => v = .int .i64 ((k : Int)), fun v _ => v = .int .i64 ((cst (k : Int)).2.2), fun v _ => v = .int .i64 (((cst (k : Int)).1) - ((cst (k : Int)).2.2)), fun v _ => v = .pointer (some ⟨CB, 0, none⟩), fun v _ => v = .int .i64 ((k : Int)), fun v _ => v = .int .i64 ((cst (k : Int)).2.1)] (by kernel_rfl) (by kernel_rfl) (by kernel_rfl) rfl ?_ ⟨?_, ?_, ?_, ?_, ?_, ?_, ?_, ?_, ?_, ?_, ?_, trivial⟩ ?_
  · exact ⟨fun _ _ _ _ h => h, fun _ _ _ _ h => h, fun _ _ _ _ h => h, fun _ _ _ _ h => h, fun _ _ _ _ h => h, fun _ _ _ _ h => h, fun _ _ _ _ h => h, fun _ _ _ _ h => h, fun _ _ _ _ h => h, fun _ _ _ _ h => h, fun _ _ _ _ h => h, trivial⟩
  · intro u w hR hd; exact runs_mv (ev rfl) ⟨Grew.refl _, rfl⟩
  · intro u w hR hd; exact rn_fld_72_0 (ev rfl) ⟨Grew.refl _, rfl⟩
  · intro u w hR hd; exact rn_ld_3 (ev (hd.1 rfl)) (c0.kept hR) ⟨Grew.refl _, rfl⟩
  · intro u w hR hd; exact runs_c1 en_ren (ev (hd.1 rfl)) (callp (fun _ e => e) (renergy_any (k : Int) _))
  · intro u w hR hd; exact rn_fld_72_0 (ev rfl) ⟨Grew.refl _, rfl⟩
  · intro u w hR hd; exact rn_ld_3 (ev (hd.1 rfl)) (c0.kept hR) ⟨Grew.refl _, rfl⟩
  · intro u w hR hd; exact runs_c1 en_rwr (ev (hd.1 rfl)) (callp (fun _ e => e) (rwrites_any (k : Int) _))
  · intro u w hR hd; exact rn_sub_3 (ev (hd.1 rfl)) (ev (hd.2.1 rfl)) (by have := cst_bd (k : Int); omega) ⟨Grew.refl _, rfl⟩
  · intro u w hR hd; exact rn_fld_72_0 (ev rfl) ⟨Grew.refl _, rfl⟩
  · intro u w hR hd; exact rn_ld_3 (ev (hd.1 rfl)) (c0.kept hR) ⟨Grew.refl _, rfl⟩
  · intro u w hR hd; exact runs_c1 en_rti (ev (hd.1 rfl)) (callp (fun _ e => e) (rticks_any (k : Int) _))
  intro u w5 hR5 h
  have e0 : u 26 = .pointer (some ⟨q, 0, none⟩) := h 0 (by decide)
  have e7 : u 33 = .int .i64 ((cst (k : Int)).1 - (cst (k : Int)).2.2) := h 7 (by decide)
  have e10 : u 36 = .int .i64 (cst (k : Int)).2.1 := h 10 (by decide)
  replace hP := hP.grew ((Grew.refl V4).drw.trans hR5)
  refine wpAny_one (i := 11) (some 37) (by kernel_rfl) rfl rfl rfl (runs_c3 en_spe (ev e0) (ev e7) (ev e10) ((spend_pf hP _ _ (by have := HL.out; omega) (Nat.le_trans HN.out HG.out.sz)).mono ?_))
  rintro e w6 ⟨rfl, hP6⟩
  refine ⟨_, rfl, ?_⟩
  refine wpAny_one (i := 12) (some 38) (by kernel_rfl) rfl rfl rfl (runs_nt (ev rfl) ?_)
  refine wpAny_done (by kernel_rfl) ?_ _
  simp only [zz1, zz2, zz3, Act.put, mixA, mixL, zz9, zz0, zz4, zz5, zz6]
  simp only [Nat.zero_add, Nat.reduceAdd]
  clear h e0 e7 e10 hP hR5 c0
  generalize u 26 = z26
  generalize u 27 = z27
  generalize u 28 = z28
  generalize u 29 = z29
  generalize u 30 = z30
  generalize u 31 = z31
  generalize u 32 = z32
  generalize u 33 = z33
  generalize u 34 = z34
  generalize u 35 = z35
  generalize u 36 = z36
  have HP6 : Hid (Pf STT N A q S s (spend W (k : Int)) V4 w6) := Lib.hid hP6
  clear hP6 hBX0
  rw [show (W.call 8 ((cst (k : Int)).1 - (cst (k : Int)).2.2) (cst (k : Int)).2.1).okb = true from HSP.out]
  simp only [Bool.not_true, Exit.then]
  apply_assumption
  refine wp_cond_false rfl ?_
  go_upto_region 6 with fail
  have hz6 := HBU.out.grew HG.out
  have HO6 := HP6.out.other HO.out (hz6.aside HO.out) (Ne.symm HAO.out)
  have HXA := Lib.hid (HBX.out.ne HSB.out (by decide))
  have HCB6 := HP6.out.other HCB.out (hz6.aside HCB.out) HNE.out.1
  have HBX6 := HP6.out.other HBX.out (hz6.aside HBX.out) (HBX.out.ne HSB.out (by decide))
  obtain ⟨S6, hb6, hm6⟩ : ∃ S', Bus N w6 q (spend W (k : Int)) S' ∧ Moved No S S' w w6 := by
    obtain ⟨_, S', h2, h3⟩ := HP6.out
    exact ⟨S', h2, Moved.skip (Moved.of_grew No S HG.out) h3 HAL.out⟩
  refine wp_region_list ?_
  refine load_st Tryd.underlying33 sizeS rfl (.tmp 3) rfl A rfl s HS.out HP6.out.cpu ?_
  simp only [zz1, zz2, zz3, Act.put, mixA, mixL, zz9, zz0, zz4, zz5, zz6]
  refine alloc_st rfl rfl fun w7 hZ0 g7 => ?_
  simp only [zz1, zz2, zz3, Act.put, mixA, mixL, zz9, zz0, zz4, zz5, zz6]
  refine store_st sizeS rfl (.tmp 9) (.tmp 40) rfl w6.heap.size rfl s zst HS.out zst_ok rfl hZ0 fun V6 hZ c7 => ?_
  simp only [zz1, zz2, zz3, Act.put, mixA, mixL, zz9, zz0, zz4, zz5, zz6]
  have gV : Grew w6 V6 := grew_lift g7 c7 fun k hk => by have e : k = w6.heap.size := hk; omega
  have hZA : w6.heap.size ≠ A ∧ w6.heap.size ≠ O := ⟨by have := HP6.out.cpu.lt; omega, by have := HO6.lt; omega⟩
  have HZN := Lib.hid hZA
  have HZ := Lib.hid hZ
  have HM6 : Hid (Moved No S S6 w V6) := Lib.hid (hm6.grow gV)
  have HB6 := Lib.hid (hb6.grew gV)
  replace HO := Lib.hid (HO6.grew gV)
  replace HCB := Lib.hid (HCB6.grew gV)
  replace HBX := Lib.hid (HBX6.grew gV)
  have HP0 := Pf.start (HP6.out.cpu.grew gV) HB6.out
  have HNV : Hid (N ≤ V6.heap.size) := Lib.hid (by have := HN.out; have := HG.out.sz; have := hm6.size; have := gV.sz; omega)
  generalize w6.heap.size = Z at HZ hZ0 hZ c7 HZN hZA ⊢
  clear hz6 HO6 HCB6 HBX6 hm6 hb6 hZ0 g7 hZ c7 gV hZA HP6 HSB
  have c0 : V6.cell? ⟨CB, 0, none⟩ = some (.int .i64 (k : Int)) := HCB.out.cell 0
  have c1 : V6.cell? ⟨CB, 1, none⟩ = some (.int .i64 (a : Int)) := HCB.out.cell 1
  have c4 : V6.cell? ⟨CB, 4, none⟩ = some (.int .i16 i) := HCB.out.cell 4
  have s0 : V6.cell? ⟨A, 0, none⟩ = some (.int .i64 s.pc) := HP0.cpu.cell 0
  have sf := HP0.cpu.free
  have hp0 : 0 ≤ s.pc := by rw [HPC.out]; omega
  have hp1 : s.pc + 1 ≤ 9223372036854775807 := by rw [HPC.out]; exact hm9
  refine wpList_nil ?_
  simp only [Exit.then]
  apply_assumption
  go_upto_region 11 with fail
  generalize hW : World.setCell _ _ _ = V7
  have hP7 : Pf STT N A q S6 ⟨s.pc + 1, s.xs⟩ (spend W (k : Int)) V6 V7 := hW ▸ HP0.pc (s.pc + 1)
  have HP7 := Lib.hid hP7
  have HS7 : Hid ((⟨s.pc + 1, s.xs⟩ : St).Ok) := Lib.hid (HS.out.pc _)
  have HW7 : Hid (spend W (k : Int)).Ok := Lib.hid (HWO.out.call _ _ _)
  have HL7 : Hid ((spend W (k : Int)).cs.length ≤ 70001) := Lib.hid (by unfold spend; rw [Wd.call_len]; have := HL.out; omega)
  have hCB7 := hP7.other HCB.out (HB6.out.aside HCB.out) HNE.out.1
  have HC7 := Lib.hid hCB7
  clear hW HP0 c0 c1 c4 s0 sf hP7
  have sf := HP7.out.cpu.free
  have s0 : V7.cell? ⟨A, 0, none⟩ = some (.int .i64 (s.pc + 1)) := HP7.out.cpu.cell 0
  have sA : V7.cell? ⟨A, 1 + a, none⟩ = some (.int .i16 (s.reg a)) := by rw [HP7.out.cpu.cell]; exact stv_at HS7.out (by omega)
  have sB : V7.cell? ⟨A, 1 + b, none⟩ = some (.int .i16 (s.reg b)) := by rw [HP7.out.cpu.cell]; exact stv_at HS7.out (by omega)
  have sD : V7.cell? ⟨A, 1 + d, none⟩ = some (.int .i16 (s.reg d)) := by rw [HP7.out.cpu.cell]; exact stv_at HS7.out (by omega)
  obtain ⟨ra1, ra2⟩ : -32768 ≤ s.reg a ∧ s.reg a ≤ 32767 := HS.out.reg a
  obtain ⟨rb1, rb2⟩ : -32768 ≤ s.reg b ∧ s.reg b ≤ 32767 := HS.out.reg b
  have c0 := hCB7.cell 0
  have c1 := hCB7.cell 1
  have c2 := hCB7.cell 2
  have c3 := hCB7.cell 3
  have c4 := hCB7.cell 4
  simp only [zz7, zz8] at c0 c1 c2 c3 c4
  clear hCB7
  refine wp_region_list ?_
  refine wpList_runs rfl (some 48) rfl (rn_fld_72_0 (ev rfl) ?_)
  simp only [zz1, zz2, zz3, Act.put, mixA, mixL, zz9, zz0, zz4, zz5, zz6]
  refine wpList_runs rfl (some 49) rfl (rn_ld_3 (ev rfl) c0 ?_)
  simp only [zz1, zz2, zz3, Act.put, mixA, mixL, zz9, zz0, zz4, zz5, zz6]
  refine wpList_nil ?_
  refine then_ok ?_
  apply_assumption
  refine wp_block ?_
  rcases HK2.out with rfl
  · refine sw_no (z := 23) rfl (by decide) rfl rfl ?_
    refine wp_act (by simp only [zz1, zz2, zz3, Act.put, mixA, mixL, zz9, zz0, zz4, zz5, zz6]; rfl) ?_
    refine sw_no (z := 23) rfl (by decide) rfl rfl ?_
    refine wp_act (by simp only [zz1, zz2, zz3, Act.put, mixA, mixL, zz9, zz0, zz4, zz5, zz6]; rfl) ?_
    refine sw_no (z := 23) rfl (by decide) rfl rfl ?_
    refine wp_act (by simp only [zz1, zz2, zz3, Act.put, mixA, mixL, zz9, zz0, zz4, zz5, zz6]; rfl) ?_
    refine sw_no (z := 23) rfl (by decide) rfl rfl ?_
    refine wp_act (by simp only [zz1, zz2, zz3, Act.put, mixA, mixL, zz9, zz0, zz4, zz5, zz6]; rfl) ?_
    refine sw_no (z := 23) rfl (by decide) rfl rfl ?_
    refine wp_act (by simp only [zz1, zz2, zz3, Act.put, mixA, mixL, zz9, zz0, zz4, zz5, zz6]; rfl) ?_
    refine sw_no (z := 23) rfl (by decide) rfl rfl ?_
    refine wp_act (by simp only [zz1, zz2, zz3, Act.put, mixA, mixL, zz9, zz0, zz4, zz5, zz6]; rfl) ?_
    refine sw_no (z := 23) rfl (by decide) rfl rfl ?_
    refine wp_act (by simp only [zz1, zz2, zz3, Act.put, mixA, mixL, zz9, zz0, zz4, zz5, zz6]; rfl) ?_
    refine sw_no (z := 23) rfl (by decide) rfl rfl ?_
    refine wp_act (by simp only [zz1, zz2, zz3, Act.put, mixA, mixL, zz9, zz0, zz4, zz5, zz6]; rfl) ?_
    refine sw_no (z := 23) rfl (by decide) rfl rfl ?_
    refine wp_act (by simp only [zz1, zz2, zz3, Act.put, mixA, mixL, zz9, zz0, zz4, zz5, zz6]; rfl) ?_
    refine sw_no (z := 23) rfl (by decide) rfl rfl ?_
    refine wp_act (by simp only [zz1, zz2, zz3, Act.put, mixA, mixL, zz9, zz0, zz4, zz5, zz6]; rfl) ?_
    refine sw_no (z := 23) rfl (by decide) rfl rfl ?_
    refine wp_act (by simp only [zz1, zz2, zz3, Act.put, mixA, mixL, zz9, zz0, zz4, zz5, zz6]; rfl) ?_
    refine sw_no (z := 23) rfl (by decide) rfl rfl ?_
    refine wp_act (by simp only [zz1, zz2, zz3, Act.put, mixA, mixL, zz9, zz0, zz4, zz5, zz6]; rfl) ?_
    refine sw_no (z := 23) rfl (by decide) rfl rfl ?_
    refine wp_act (by simp only [zz1, zz2, zz3, Act.put, mixA, mixL, zz9, zz0, zz4, zz5, zz6]; rfl) ?_
    refine sw_no (z := 23) rfl (by decide) rfl rfl ?_
    refine wp_act (by simp only [zz1, zz2, zz3, Act.put, mixA, mixL, zz9, zz0, zz4, zz5, zz6]; rfl) ?_
    refine sw_yes (z := 23) rfl (by decide) rfl rfl ?_
    refine wp_act (by simp only [zz1, zz2, zz3, Act.put, mixA, mixL, zz9, zz0, zz4, zz5, zz6]; rfl) ?_
    have HGO0 : Hid (go1 ⟨(23 : Int), a, b, d, i⟩ ((opnd ⟨(23 : Int), a, b, d, i⟩ s I).1) s W = if ((spend W ((23 : Nat) : Int)).read i).2.1 then ((s.to a (((spend W ((23 : Nat) : Int)).read i).1) (s.pc + 1)), 1, ((spend W ((23 : Nat) : Int)).read i).2.2) else (s, 4, ((spend W ((23 : Nat) : Int)).read i).2.2)) := Lib.hid (by unfold go1; rw [if_pos (show (spend W (23 : Int)).okb = true from HSP.out)]; rfl)
    go_upto_region 46 with fail
    have hgd : Grew V7 V7.drew := (Grew.refl _).drw
    have HP9 := Lib.hid (HP7.out.grew hgd)
    have hK := HC7.out.grew hgd
    clear s0 sf sA sB sD c0 c1 c2 c3 c4 hgd
    refine wp_region_held_drew (S := fun W9 => Blk CB [.int .i64 ((23 : Nat) : Int), .int .i64 a, .int .i64 b, .int .i64 d, .int .i16 i] 72 W9) (by kernel_rfl) hK fun _ => ?_
    refine wpAnyH_take (i := 0) (v := .pointer (some ⟨CB, 1, none⟩)) rfl (by kernel_rfl) (by kernel_rfl) (by kernel_rfl) (fun _ _ _ h => nomatch h.2.1) (Or.inl ⟨by rfl, fun W9 h9 => by simp only [execOp]; go_simp⟩) hK ?_
    simp only [zz1, zz2, zz3, Act.put, mixA, mixL, zz9, zz0, zz4, zz5, zz6]
    refine wpAnyH_take (i := 1) (v := .int .i64 (((a : Nat) : Int))) rfl (by kernel_rfl) (by kernel_rfl) (by kernel_rfl) (fun _ _ _ h => nomatch h.2.1) (Or.inl ⟨by rfl, fun W9 h9 => by have q9 := h9.cell 1; simp only [zz7, zz8] at q9; simp only [execOp]; go_simp⟩) hK ?_
    simp only [zz1, zz2, zz3, Act.put, mixA, mixL, zz9, zz0, zz4, zz5, zz6]
    refine wpAnyH_take (i := 2) (v := .pointer (some ⟨q, 0, none⟩)) rfl (by kernel_rfl) (by kernel_rfl) (by kernel_rfl) (fun _ _ _ h => nomatch h.2.1) (Or.inl ⟨by rfl, fun W9 h9 => by simp only [execOp]; go_simp⟩) hK ?_
    simp only [zz1, zz2, zz3, Act.put, mixA, mixL, zz9, zz0, zz4, zz5, zz6]
    refine wpAnyH_take (i := 3) (v := .int .i64 (i)) rfl (by kernel_rfl) (by kernel_rfl) (by kernel_rfl) (fun _ _ _ h => nomatch h.2.1) (Or.inl ⟨by rfl, fun W9 h9 => by simp only [execOp]; go_simp⟩) hK ?_
    simp only [zz1, zz2, zz3, Act.put, mixA, mixL, zz9, zz0, zz4, zz5, zz6]
    refine wpAnyH_take (i := 8) (v := .pointer (some ⟨A, 1, none⟩)) rfl (by kernel_rfl) (by kernel_rfl) (by kernel_rfl) (fun _ _ _ h => nomatch h.2.1) (Or.inl ⟨by rfl, fun W9 h9 => by simp only [execOp]; go_simp⟩) hK ?_
    simp only [zz1, zz2, zz3, Act.put, mixA, mixL, zz9, zz0, zz4, zz5, zz6]
    refine wpAnyH_go [4] (by kernel_rfl) (by simp) ⟨⟨_, rfl, rfl, ?_⟩, trivial⟩
    refine runs_c2 en_rd (ev rfl) (ev rfl) ((read_pf HP9.out i (by have := HL7.out; omega) HNV.out).mono ?_)
    rintro r8 w8 ⟨rfl, hP8⟩
    have hK8 := hP8.other HCB.out (HB6.out.aside HCB.out) HNE.out.1
    refine ⟨_, rfl, hK8, ?_⟩
    clear hK HP9
    have hK := hK8
    have HP9 := Lib.hid hP8
    clear hK8 hP8
    simp only [zz1, zz2, zz3, Act.put, mixA, mixL, zz9, zz0, zz4, zz5, zz6]
    refine wpAnyH_take (i := 5) (v := .tuple #[.int .i16 (((spend W ((23 : Nat) : Int)).read i).1), .bool (((spend W ((23 : Nat) : Int)).read i).2.1)]) rfl (by kernel_rfl) (by kernel_rfl) (by kernel_rfl) (fun _ _ _ h => nomatch h.2.1) (Or.inl ⟨by rfl, fun W9 h9 => by simp only [execOp]; go_simp⟩) hK ?_
    simp only [zz1, zz2, zz3, Act.put, mixA, mixL, zz9, zz0, zz4, zz5, zz6]
    refine wpAnyH_take (i := 6) (v := .int .i16 (((spend W ((23 : Nat) : Int)).read i).1)) rfl (by kernel_rfl) (by kernel_rfl) (by kernel_rfl) (fun _ _ _ h => nomatch h.2.1) (Or.inl ⟨by rfl, fun W9 h9 => by simp only [execOp]; go_simp⟩) hK ?_
    simp only [zz1, zz2, zz3, Act.put, mixA, mixL, zz9, zz0, zz4, zz5, zz6]
    refine wpAnyH_take (i := 7) (v := .bool (((spend W ((23 : Nat) : Int)).read i).2.1)) rfl (by kernel_rfl) (by kernel_rfl) (by kernel_rfl) (fun _ _ _ h => nomatch h.2.1) (Or.inl ⟨by rfl, fun W9 h9 => by simp only [execOp]; go_simp⟩) hK ?_
    simp only [zz1, zz2, zz3, Act.put, mixA, mixL, zz9, zz0, zz4, zz5, zz6]
    refine wpAnyH_take (i := 9) (v := .pointer (some ⟨A, 1 + a, none⟩)) rfl (by kernel_rfl) (by kernel_rfl) (by kernel_rfl) (fun _ _ _ h => nomatch h.2.1) (Or.inl ⟨by rfl, fun W9 h9 => by simp only [execOp]; go_simp⟩) hK ?_
    simp only [zz1, zz2, zz3, Act.put, mixA, mixL, zz9, zz0, zz4, zz5, zz6]
    refine wpAnyH_go [10] (by kernel_rfl) (by simp) ⟨⟨_, rfl, rfl, ?_⟩, trivial⟩
    refine rn_st_29 (q := ⟨A, 1 + a, none⟩) (z := ((spend W ((23 : Nat) : Int)).read i).1) (v' := .int .i16 (s.reg a)) (ev rfl) (ev rfl) (by rw [HP9.out.cpu.cell]; exact stv_at HS7.out (by omega)) (HP9.out.cpu.free _) ?_
    have hKs := hK.other A (1 + a) (.int .i16 (((spend W ((23 : Nat) : Int)).read i).1)) HNE.out.1
    have HPs : Hid (Pf STT N A q S6 (s.to a (((spend W ((23 : Nat) : Int)).read i).1) (s.pc + 1)) ((spend W ((23 : Nat) : Int)).read i).2.2 V6 (World.setCell _ ⟨A, 1 + a, none⟩ (.int .i16 (((spend W ((23 : Nat) : Int)).read i).1)))) := Lib.hid (HP9.out.set a (((spend W ((23 : Nat) : Int)).read i).1))
    generalize World.setCell _ _ _ = Vs at hKs HPs ⊢
    refine ⟨hKs, ?_⟩
    clear hK HP9
    have hK := hKs
    have HP9 := Lib.hid HPs.out
    clear hKs HPs
    simp only [zz1, zz2, zz3, Act.put, mixA, mixL, zz9, zz0, zz4, zz5, zz6]
    refine wpAnyH_take (i := 11) (v := .bool (((spend W ((23 : Nat) : Int)).read i).2.1)) rfl (by kernel_rfl) (by kernel_rfl) (by kernel_rfl) (fun _ _ _ h => nomatch h.2.1) (Or.inl ⟨by rfl, fun W9 h9 => by simp only [execOp]; go_simp⟩) hK ?_
    simp only [zz1, zz2, zz3, Act.put, mixA, mixL, zz9, zz0, zz4, zz5, zz6]
    refine wpAnyH_done (by kernel_rfl) ?_ _
    try simp only [zz1, zz2, zz3, Act.put, mixA, mixL, zz9, zz0, zz4, zz5, zz6]
    go_upto_region 59 with fail
    cases hok : ((spend W ((23 : Nat) : Int)).read i).2.1 with
    | true =>
      have HGO := Lib.hid (HGO0.out.trans (if_pos hok))
      clear hok
      go_upto_region 61 with fail
      have hO8 := HP9.out.other HO.out (HB6.out.aside HO.out) (Ne.symm HAO.out)
      have hZ8 := HP9.out.other HZ.out (HB6.out.aside HZ.out) HZN.out.1
      refine wp_region_list ?_
      refine load_st Tryd.underlying33 sizeS rfl (.tmp 3) rfl A rfl (s.to a (((spend W ((23 : Nat) : Int)).read i).1) (s.pc + 1)) (HS.out.to a _ HW7.out.head) HP9.out.cpu ?_
      simp only [zz1, zz2, zz3, Act.put, mixA, mixL, zz9, zz0, zz4, zz5, zz6]
      refine wpList_runs rfl (some 306) rfl (runs_mv (ev rfl) ?_)
      simp only [zz1, zz2, zz3, Act.put, mixA, mixL, zz9, zz0, zz4, zz5, zz6]
      refine store_st sizeS rfl (.tmp 6) (.tmp 305) rfl O rfl (s.to a (((spend W ((23 : Nat) : Int)).read i).1) (s.pc + 1)) zst (HS.out.to a _ HW7.out.head) zst_ok rfl hO8 fun w9 hB9 c9 => ?_
      simp only [zz1, zz2, zz3, Act.put, mixA, mixL, zz9, zz0, zz4, zz5, zz6]
      refine wpList_runs rfl (some 7) rfl (runs_mva (ev rfl) ?_)
      simp only [zz1, zz2, zz3, Act.put, mixA, mixL, zz9, zz0, zz4, zz5, zz6]
      go_wp2
      refine ret_st Tryd.results15 (HS.out.to a _ HW7.out.head) rfl rfl hB9 ?_
      obtain ⟨hcpu8, S8, hb8, m8⟩ := HP9.out
      first | rw [HGO.out] | rw [show go1 ⟨((23 : Nat) : Int), a, b, d, i⟩ (opnd ⟨((23 : Nat) : Int), a, b, d, i⟩ s I).1 s W = _ from HGO.out]
      exact ⟨rfl, S8, hb8.chg c9 fun k hk e => by have e2 : k = O := e; subst e2; exact hb8.aside hO8 (by decide) hk, Moved.skip (Moved.skip HM6.out m8 HAL.out) ⟨c9.mono fun k hk => .inl hk, fun k hk => .inl hk⟩ HOL.out⟩
    | false =>
      have HGO := Lib.hid (HGO0.out.trans (if_neg (by rw [hok]; decide)))
      clear hok
      go_upto_region 60 with fail
      have hO8 := HP9.out.other HO.out (HB6.out.aside HO.out) (Ne.symm HAO.out)
      have hZ8 := HP9.out.other HZ.out (HB6.out.aside HZ.out) HZN.out.1
      refine wp_region_list ?_
      refine load_st Tryd.underlying33 sizeS rfl (.tmp 9) rfl Z rfl s HS.out hZ8 ?_
      simp only [zz1, zz2, zz3, Act.put, mixA, mixL, zz9, zz0, zz4, zz5, zz6]
      refine store_st sizeS rfl (.tmp 6) (.tmp 304) rfl O rfl s zst HS.out zst_ok rfl hO8 fun w9 hB9 c9 => ?_
      simp only [zz1, zz2, zz3, Act.put, mixA, mixL, zz9, zz0, zz4, zz5, zz6]
      refine wpList_runs rfl (some 7) rfl (runs_mva (v := .int .i64 4) rfl ?_)
      simp only [zz1, zz2, zz3, Act.put, mixA, mixL, zz9, zz0, zz4, zz5, zz6]
      go_wp2
      refine ret_st Tryd.results15 HS.out rfl rfl hB9 ?_
      obtain ⟨hcpu8, S8, hb8, m8⟩ := HP9.out
      first | rw [HGO.out] | rw [show go1 ⟨((23 : Nat) : Int), a, b, d, i⟩ (opnd ⟨((23 : Nat) : Int), a, b, d, i⟩ s I).1 s W = _ from HGO.out]
      exact ⟨rfl, S8, hb8.chg c9 fun k hk e => by have e2 : k = O := e; subst e2; exact hb8.aside hO8 (by decide) hk, Moved.skip (Moved.skip HM6.out m8 HAL.out) ⟨c9.mono fun k hk => .inl hk, fun k hk => .inl hk⟩ HOL.out⟩
set_option maxHeartbeats 20000000 in
theorem rgo_g (I : Im) (r : Rest) (gp ap kp hp : Option Addr) (gc ac kc hc : Nat) (s : St) (hs : s.Ok) (W : Wd) (hWo : W.Ok) (N q : Nat) (S : Nat → Prop) (w : World) (hbus : Bus N w q W S) (hI : ImRows N w I gp ap kp gc ac kc) (hIo : I.Ok) (hl : W.cs.length ≤ 70000) (hN : N ≤ w.heap.size) (k a b d : Nat) (i : Int) (hx : I.at s.pc = some ⟨k, a, b, d, i⟩) (hv : valid ⟨k, a, b, d, i⟩ = true) (hi : I16 i) (ha : a < 8) (hb : b < 8) (hd : d < 8) (ho : (opnd ⟨k, a, b, d, i⟩ s I).2 = true) (hsp : (spend W (k : Int)).okb = true) (hk2 : k = 4 ∨ k = 5) :
    Calls Tryd.prog 15 #[.agg (stv s).toArray, .agg #[r.v0, .slice gp I.gs.length gc, .int .i64 I.sens, .int .i64 I.outs, .slice hp I.chans hc, r.v5, .slice ap I.addr.length ac, r.v7, r.v8, r.v9, r.v10, .slice kp I.code.length kc], .pointer (some ⟨q, 0, none⟩)] w fun e w' => e = .returned (.tuple #[.agg (stv (go1 ⟨k, a, b, d, i⟩ (opnd ⟨k, a, b, d, i⟩ s I).1 s W).1).toArray, .int .i64 ((go1 ⟨k, a, b, d, i⟩ (opnd ⟨k, a, b, d, i⟩ s I).1 s W).2.1)]) ∧ ∃ S', Bus N w' q ((go1 ⟨k, a, b, d, i⟩ (opnd ⟨k, a, b, d, i⟩ s I).1 s W).2.2) S' ∧ Moved No S S' w w' := by
  have HSP := Lib.hid hsp
  have HK2 := Lib.hid hk2
  clear hsp hk2
  have hxx := hx
  obtain ⟨x, hxe⟩ : ∃ x : Cd, x = ⟨k, a, b, d, i⟩ := ⟨_, rfl⟩
  have hTR : trapd I s = false := by
    unfold trapd; rw [hx]; dsimp only; rw [hv, ho]; rfl
  rw [← hxe] at hx
  obtain ⟨m, hpc, hml, hmx⟩ := Im.at_some hx
  obtain ⟨kb, ko, rfl, hkc⟩ := hI.code.cells (by omega)
  have hk0 : Atv ⟨kb, ko + m * 5, none⟩ (.int .i64 x.op) w := hkc m x hmx 0 _ rfl
  have hk1 : Atv ⟨kb, ko + m * 5 + 1, none⟩ (.int .i64 x.a) w := hkc m x hmx 1 _ rfl
  have hk2 : Atv ⟨kb, ko + m * 5 + 2, none⟩ (.int .i64 x.b) w := hkc m x hmx 2 _ rfl
  have hk3 : Atv ⟨kb, ko + m * 5 + 3, none⟩ (.int .i64 x.c) w := hkc m x hmx 3 _ rfl
  have hk4 : Atv ⟨kb, ko + m * 5 + 4, none⟩ (.int .i16 x.i) w := hkc m x hmx 4 _ rfl
  have hm0 : ¬ ((m : Nat) : Int) < 0 := by omega
  have hm1 : ¬ (I.code.length : Int) ≤ ((m : Nat) : Int) := by omega
  have hm2 : ((m : Nat) : Int) < (I.code.length : Int) := by omega
  have HPC := Lib.hid hpc
  have hm9 : (m : Int) + 1 ≤ 9223372036854775807 := by have := hIo.lc; omega
  subst hxe
  obtain ⟨hi1, hi2⟩ := hi
  have HX := Lib.hid hxx
  have HV := Lib.hid hv
  have HOP := Lib.hid ho
  have HTR := Lib.hid hTR
  have ha8 : (a : Int) < 8 := by omega
  have hb8 : (b : Int) < 8 := by omega
  have hd8 : (d : Int) < 8 := by omega
  clear hx hxx hv ho hTR hpc hml hmx hkc
  have HS := Lib.hid hs
  have HWO := Lib.hid hWo
  have HIO := Lib.hid hIo
  have HIR := Lib.hid hI
  have HBU := Lib.hid hbus
  have HL := Lib.hid hl
  have HN := Lib.hid hN
  clear hs hWo hIo hI hbus hl hN
  go_enter Tryd.func15, Tryd.ntmps15
  go_upto_region 0 with fail
  refine wp_region_list ?_
  refine wpList_box_whole rfl _ _ rfl (stv s) rfl fun w1 hB1 g1 => ?_
  simp only [zz1, zz2, zz3, Act.put, mixA, mixL, zz9, zz0, zz4, zz5, zz6]
  refine wpList_box_whole rfl _ _ rfl [r.v0, .slice gp I.gs.length gc, .int .i64 I.sens, .int .i64 I.outs, .slice hp I.chans hc, r.v5, .slice ap I.addr.length ac, r.v7, r.v8, r.v9, r.v10, .slice (some ⟨kb, ko, none⟩) I.code.length kc] rfl fun w2 bx g2 => ?_
  simp only [zz1, zz2, zz3, Act.put, mixA, mixL, zz9, zz0, zz4, zz5, zz6]
  refine alloc_st rfl rfl fun w3 hO g3 => ?_
  simp only [zz1, zz2, zz3, Act.put, mixA, mixL, zz9, zz0, zz4, zz5, zz6]
  have HG := Lib.hid ((g1.trans g2).trans g3)
  have HSB := Lib.hid ((hB1.grew g2).grew g3)
  have HBX := Lib.hid (bx.grew g3)
  have HO := Lib.hid hO
  have HAO : Hid (w.heap.size ≠ w2.heap.size) := Lib.hid (by have := (hB1.grew g2).lt; omega)
  have HOL : Hid (w.heap.size ≤ w2.heap.size) := Lib.hid (g1.trans g2).sz
  generalize w2.heap.size = O at HO hO HAO HOL ⊢
  generalize w1.heap.size = X at HBX bx ⊢
  have HAL : Hid (w.heap.size ≤ w.heap.size) := Lib.hid (Nat.le_refl _)
  obtain ⟨A, hA⟩ : ∃ A, A = w.heap.size := ⟨_, rfl⟩
  rw [← hA] at HSB HAO ⊢
  replace HAL : Hid (w.heap.size ≤ A) := Lib.hid (Nat.le_of_eq hA.symm)
  clear g1 g2 g3 hB1 bx hO hA
  go_upto_region 1 with fail
  refine wp_region_list ?_
  refine wpList_runs rfl (some 16) rfl (runs_ldm 33 (ev rfl) HSB.out.range Tryd.underlying33 rfl (by rw [sizeS, stv_len HS.out]) ?_)
  simp only [zz1, zz2, zz3, Act.put, mixA, mixL, zz9, zz0, zz4, zz5, zz6]
  refine wpList_runs rfl (some 17) rfl (runs_ldm 28 (ev rfl) HBX.out.range Tryd.underlying28 rfl (by rw [sizeI]; rfl) ?_)
  simp only [zz1, zz2, zz3, Act.put, mixA, mixL, zz9, zz0, zz4, zz5, zz6]
  refine wpList_runs rfl (some 18) rfl (runs_c2 en_trp (ev rfl) (ev rfl) ((trap_is I r gp ap _ hp gc ac kc hc s HS.out N _ (HIR.out.grew HG.out) HIO.out false HTR.out).mono ?_))
  rintro e w4 ⟨rfl, g4⟩
  refine ⟨_, rfl, ?_⟩
  simp only [zz1, zz2, zz3, Act.put, mixA, mixL, zz9, zz0, zz4, zz5, zz6]
  replace HG := Lib.hid (HG.out.trans g4)
  replace HSB := Lib.hid (HSB.out.grew g4)
  replace HBX := Lib.hid (HBX.out.grew g4)
  replace HO := Lib.hid (HO.out.grew g4)
  clear g4
  have bx := HBX.out
  have x0 := bx.cell 0
  have x1 := bx.cell 1
  have x2 := bx.cell 2
  have x3 := bx.cell 3
  have x4 := bx.cell 4
  have x5 := bx.cell 5
  have x6 := bx.cell 6
  have x7 := bx.cell 7
  have x8 := bx.cell 8
  have x9 := bx.cell 9
  have x10 := bx.cell 10
  have x11 := bx.cell 11
  simp only [zz7, zz8] at x0 x1 x2 x3 x4 x5 x6 x7 x8 x9 x10 x11
  have s0 : w4.cell? ⟨A, 0, none⟩ = some (.int .i64 ((m : Nat) : Int)) := by rw [← HPC.out]; exact HSB.out.cell 0
  have k0 := (show Atv _ _ w from hk0).grew HG.out
  have k1 := (show Atv _ _ w from hk1).grew HG.out
  have k2 := (show Atv _ _ w from hk2).grew HG.out
  have k3 := (show Atv _ _ w from hk3).grew HG.out
  have k4 := (show Atv _ _ w from hk4).grew HG.out
  go_upto_region 4 with fail
  generalize hW : World.alloc _ _ = V4
  have bc : Blk w4.heap.size [.int .i64 k, .int .i64 a, .int .i64 b, .int .i64 d, .int .i16 i] 72 V4 := by subst hW; exact Blk.new w4 _ _
  have g5 : Grew w4 V4 := by subst hW; exact (Grew.refl _).alloc _
  clear hW x0 x1 x2 x3 x4 x5 x6 x7 x8 x9 x10 x11 bx s0 k0 k1 k2 k3 k4
  have hCBne : w4.heap.size ≠ A ∧ w4.heap.size ≠ O := ⟨by have := HSB.out.lt; omega, by have := HO.out.lt; omega⟩
  replace HG := Lib.hid (HG.out.trans g5)
  replace HSB := Lib.hid (HSB.out.grew g5)
  replace HBX := Lib.hid (HBX.out.grew g5)
  replace HO := Lib.hid (HO.out.grew g5)
  have HCB := Lib.hid bc
  generalize w4.heap.size = CB at bc HCB hCBne ⊢
  have HNE := Lib.hid hCBne
  clear g5 hCBne
  have hP := Pf.start (e := STT) (c := A) HSB.out (HBU.out.grew HG.out)
  have hBX0 := HBX.out
  have c0 : Atv ⟨CB, 0, none⟩ (.int .i64 (k : Int)) V4.drew := (bc.grew (Grew.refl _).drw).atv 0 rfl
  clear bc
  refine wp_grew_tail 11 [some 26, some 27, some 28, some 29, some 30, some 31, some 32, some 33, some 34, some 35, some 36] zD3 [fun v _ => v = .pointer (some ⟨q, 0, none⟩), fun v _ => v = .pointer (some ⟨CB, 0, none⟩), fun v _ => v = .int .i64 ((k : Int)), fun v _ => v = .int .i64 ((cst (k : Int)).1), fun v _ => v = .pointer (some ⟨CB, 0, none⟩), fun v _ => v = .int .i64 ((k : Int)), fun v _ => v = .int .i64 ((cst (k : Int)).2.2), fun v _ => v = .int .i64 (((cst (k : Int)).1) - ((cst (k : Int)).2.2)), fun v _ => v = .pointer (some ⟨CB, 0, none⟩), fun v _ => v = .int .i64 ((k : Int)), fun v _ => v = .int .i64 ((cst (k : Int)).2.1)] (by kernel_rfl) (by kernel_rfl) (by kernel_rfl) rfl ?_ ⟨?_, ?_, ?_, ?_, ?_, ?_, ?_, ?_, ?_, ?_, ?_, trivial⟩ ?_
  · exact ⟨fun _ _ _ _ h => h, fun _ _ _ _ h => h, fun _ _ _ _ h => h, fun _ _ _ _ h => h, fun _ _ _ _ h => h, fun _ _ _ _ h => h, fun _ _ _ _ h => h, fun _ _ _ _ h => h, fun _ _ _ _ h => h, fun _ _ _ _ h => h, fun _ _ _ _ h => h, trivial⟩
  · intro u w hR hd; exact runs_mv (ev rfl) ⟨Grew.refl _, rfl⟩
  · intro u w hR hd; exact rn_fld_72_0 (ev rfl) ⟨Grew.refl _, rfl⟩
  · intro u w hR hd; exact rn_ld_3 (ev (hd.1 rfl)) (c0.kept hR) ⟨Grew.refl _, rfl⟩
  · intro u w hR hd; exact runs_c1 en_ren (ev (hd.1 rfl)) (callp (fun _ e => e) (renergy_any (k : Int) _))
  · intro u w hR hd; exact rn_fld_72_0 (ev rfl) ⟨Grew.refl _, rfl⟩
  · intro u w hR hd; exact rn_ld_3 (ev (hd.1 rfl)) (c0.kept hR) ⟨Grew.refl _, rfl⟩
  · intro u w hR hd; exact runs_c1 en_rwr (ev (hd.1 rfl)) (callp (fun _ e => e) (rwrites_any (k : Int) _))
  · intro u w hR hd; exact rn_sub_3 (ev (hd.1 rfl)) (ev (hd.2.1 rfl)) (by have := cst_bd (k : Int); omega) ⟨Grew.refl _, rfl⟩
  · intro u w hR hd; exact rn_fld_72_0 (ev rfl) ⟨Grew.refl _, rfl⟩
  · intro u w hR hd; exact rn_ld_3 (ev (hd.1 rfl)) (c0.kept hR) ⟨Grew.refl _, rfl⟩
  · intro u w hR hd; exact runs_c1 en_rti (ev (hd.1 rfl)) (callp (fun _ e => e) (rticks_any (k : Int) _))
  intro u w5 hR5 h
  have e0 : u 26 = .pointer (some ⟨q, 0, none⟩) := h 0 (by decide)
  have e7 : u 33 = .int .i64 ((cst (k : Int)).1 - (cst (k : Int)).2.2) := h 7 (by decide)
  have e10 : u 36 = .int .i64 (cst (k : Int)).2.1 := h 10 (by decide)
  replace hP := hP.grew ((Grew.refl V4).drw.trans hR5)
  refine wpAny_one (i := 11) (some 37) (by kernel_rfl) rfl rfl rfl (runs_c3 en_spe (ev e0) (ev e7) (ev e10) ((spend_pf hP _ _ (by have := HL.out; omega) (Nat.le_trans HN.out HG.out.sz)).mono ?_))
  rintro e w6 ⟨rfl, hP6⟩
  refine ⟨_, rfl, ?_⟩
  refine wpAny_one (i := 12) (some 38) (by kernel_rfl) rfl rfl rfl (runs_nt (ev rfl) ?_)
  refine wpAny_done (by kernel_rfl) ?_ _
  simp only [zz1, zz2, zz3, Act.put, mixA, mixL, zz9, zz0, zz4, zz5, zz6]
  simp only [Nat.zero_add, Nat.reduceAdd]
  clear h e0 e7 e10 hP hR5 c0
  generalize u 26 = z26
  generalize u 27 = z27
  generalize u 28 = z28
  generalize u 29 = z29
  generalize u 30 = z30
  generalize u 31 = z31
  generalize u 32 = z32
  generalize u 33 = z33
  generalize u 34 = z34
  generalize u 35 = z35
  generalize u 36 = z36
  have HP6 : Hid (Pf STT N A q S s (spend W (k : Int)) V4 w6) := Lib.hid hP6
  clear hP6 hBX0
  rw [show (W.call 8 ((cst (k : Int)).1 - (cst (k : Int)).2.2) (cst (k : Int)).2.1).okb = true from HSP.out]
  simp only [Bool.not_true, Exit.then]
  apply_assumption
  refine wp_cond_false rfl ?_
  go_upto_region 6 with fail
  have hz6 := HBU.out.grew HG.out
  have HO6 := HP6.out.other HO.out (hz6.aside HO.out) (Ne.symm HAO.out)
  have HXA := Lib.hid (HBX.out.ne HSB.out (by decide))
  have HCB6 := HP6.out.other HCB.out (hz6.aside HCB.out) HNE.out.1
  have HBX6 := HP6.out.other HBX.out (hz6.aside HBX.out) (HBX.out.ne HSB.out (by decide))
  obtain ⟨S6, hb6, hm6⟩ : ∃ S', Bus N w6 q (spend W (k : Int)) S' ∧ Moved No S S' w w6 := by
    obtain ⟨_, S', h2, h3⟩ := HP6.out
    exact ⟨S', h2, Moved.skip (Moved.of_grew No S HG.out) h3 HAL.out⟩
  refine wp_region_list ?_
  refine load_st Tryd.underlying33 sizeS rfl (.tmp 3) rfl A rfl s HS.out HP6.out.cpu ?_
  simp only [zz1, zz2, zz3, Act.put, mixA, mixL, zz9, zz0, zz4, zz5, zz6]
  refine alloc_st rfl rfl fun w7 hZ0 g7 => ?_
  simp only [zz1, zz2, zz3, Act.put, mixA, mixL, zz9, zz0, zz4, zz5, zz6]
  refine store_st sizeS rfl (.tmp 9) (.tmp 40) rfl w6.heap.size rfl s zst HS.out zst_ok rfl hZ0 fun V6 hZ c7 => ?_
  simp only [zz1, zz2, zz3, Act.put, mixA, mixL, zz9, zz0, zz4, zz5, zz6]
  have gV : Grew w6 V6 := grew_lift g7 c7 fun k hk => by have e : k = w6.heap.size := hk; omega
  have hZA : w6.heap.size ≠ A ∧ w6.heap.size ≠ O := ⟨by have := HP6.out.cpu.lt; omega, by have := HO6.lt; omega⟩
  have HZN := Lib.hid hZA
  have HZ := Lib.hid hZ
  have HM6 : Hid (Moved No S S6 w V6) := Lib.hid (hm6.grow gV)
  have HB6 := Lib.hid (hb6.grew gV)
  replace HO := Lib.hid (HO6.grew gV)
  replace HCB := Lib.hid (HCB6.grew gV)
  replace HBX := Lib.hid (HBX6.grew gV)
  have HP0 := Pf.start (HP6.out.cpu.grew gV) HB6.out
  have HNV : Hid (N ≤ V6.heap.size) := Lib.hid (by have := HN.out; have := HG.out.sz; have := hm6.size; have := gV.sz; omega)
  generalize w6.heap.size = Z at HZ hZ0 hZ c7 HZN hZA ⊢
  clear hz6 HO6 HCB6 HBX6 hm6 hb6 hZ0 g7 hZ c7 gV hZA HP6 HSB
  have c0 : V6.cell? ⟨CB, 0, none⟩ = some (.int .i64 (k : Int)) := HCB.out.cell 0
  have c1 : V6.cell? ⟨CB, 1, none⟩ = some (.int .i64 (a : Int)) := HCB.out.cell 1
  have c4 : V6.cell? ⟨CB, 4, none⟩ = some (.int .i16 i) := HCB.out.cell 4
  have s0 : V6.cell? ⟨A, 0, none⟩ = some (.int .i64 s.pc) := HP0.cpu.cell 0
  have sf := HP0.cpu.free
  have hp0 : 0 ≤ s.pc := by rw [HPC.out]; omega
  have hp1 : s.pc + 1 ≤ 9223372036854775807 := by rw [HPC.out]; exact hm9
  refine wpList_nil ?_
  simp only [Exit.then]
  apply_assumption
  go_upto_region 11 with fail
  generalize hW : World.setCell _ _ _ = V7
  have hP7 : Pf STT N A q S6 ⟨s.pc + 1, s.xs⟩ (spend W (k : Int)) V6 V7 := hW ▸ HP0.pc (s.pc + 1)
  have HP7 := Lib.hid hP7
  have HS7 : Hid ((⟨s.pc + 1, s.xs⟩ : St).Ok) := Lib.hid (HS.out.pc _)
  have HW7 : Hid (spend W (k : Int)).Ok := Lib.hid (HWO.out.call _ _ _)
  have HL7 : Hid ((spend W (k : Int)).cs.length ≤ 70001) := Lib.hid (by unfold spend; rw [Wd.call_len]; have := HL.out; omega)
  have hCB7 := hP7.other HCB.out (HB6.out.aside HCB.out) HNE.out.1
  have HC7 := Lib.hid hCB7
  clear hW HP0 c0 c1 c4 s0 sf hP7
  have sf := HP7.out.cpu.free
  have s0 : V7.cell? ⟨A, 0, none⟩ = some (.int .i64 (s.pc + 1)) := HP7.out.cpu.cell 0
  have sA : V7.cell? ⟨A, 1 + a, none⟩ = some (.int .i16 (s.reg a)) := by rw [HP7.out.cpu.cell]; exact stv_at HS7.out (by omega)
  have sB : V7.cell? ⟨A, 1 + b, none⟩ = some (.int .i16 (s.reg b)) := by rw [HP7.out.cpu.cell]; exact stv_at HS7.out (by omega)
  have sD : V7.cell? ⟨A, 1 + d, none⟩ = some (.int .i16 (s.reg d)) := by rw [HP7.out.cpu.cell]; exact stv_at HS7.out (by omega)
  obtain ⟨ra1, ra2⟩ : -32768 ≤ s.reg a ∧ s.reg a ≤ 32767 := HS.out.reg a
  obtain ⟨rb1, rb2⟩ : -32768 ≤ s.reg b ∧ s.reg b ≤ 32767 := HS.out.reg b
  have c0 := hCB7.cell 0
  have c1 := hCB7.cell 1
  have c2 := hCB7.cell 2
  have c3 := hCB7.cell 3
  have c4 := hCB7.cell 4
  simp only [zz7, zz8] at c0 c1 c2 c3 c4
  clear hCB7
  refine wp_region_list ?_
  refine wpList_runs rfl (some 48) rfl (rn_fld_72_0 (ev rfl) ?_)
  simp only [zz1, zz2, zz3, Act.put, mixA, mixL, zz9, zz0, zz4, zz5, zz6]
  refine wpList_runs rfl (some 49) rfl (rn_ld_3 (ev rfl) c0 ?_)
  simp only [zz1, zz2, zz3, Act.put, mixA, mixL, zz9, zz0, zz4, zz5, zz6]
  refine wpList_nil ?_
  refine then_ok ?_
  apply_assumption
  refine wp_block ?_
  rcases HK2.out with rfl | rfl
  · refine sw_no (z := 4) rfl (by decide) rfl rfl ?_
    refine wp_act (by simp only [zz1, zz2, zz3, Act.put, mixA, mixL, zz9, zz0, zz4, zz5, zz6]; rfl) ?_
    refine sw_no (z := 4) rfl (by decide) rfl rfl ?_
    refine wp_act (by simp only [zz1, zz2, zz3, Act.put, mixA, mixL, zz9, zz0, zz4, zz5, zz6]; rfl) ?_
    refine sw_no (z := 4) rfl (by decide) rfl rfl ?_
    refine wp_act (by simp only [zz1, zz2, zz3, Act.put, mixA, mixL, zz9, zz0, zz4, zz5, zz6]; rfl) ?_
    refine sw_yes (z := 4) rfl (by decide) rfl rfl ?_
    refine wp_act (by simp only [zz1, zz2, zz3, Act.put, mixA, mixL, zz9, zz0, zz4, zz5, zz6]; rfl) ?_
    have HGO : Hid (go1 ⟨(4 : Int), a, b, d, i⟩ ((opnd ⟨(4 : Int), a, b, d, i⟩ s I).1) s W = ((s.to a (unv 1 (s.reg b)) (s.pc + 1)), 1, (spend W ((4 : Nat) : Int)))) := Lib.hid (by unfold go1; rw [if_pos (show (spend W (4 : Int)).okb = true from HSP.out)]; rfl)
    go_upto_region 22 with fail
    have hgd : Grew V7 V7.drew := (Grew.refl _).drw
    have HP9 := Lib.hid (HP7.out.grew hgd)
    have hK := HC7.out.grew hgd
    clear s0 sf sA sB sD c0 c1 c2 c3 c4 hgd
    refine wp_region_held_drew (S := fun W9 => Blk CB [.int .i64 ((4 : Nat) : Int), .int .i64 a, .int .i64 b, .int .i64 d, .int .i16 i] 72 W9) (by kernel_rfl) hK fun _ => ?_
    refine wpAnyH_take (i := 0) (v := .pointer (some ⟨CB, 1, none⟩)) rfl (by kernel_rfl) (by kernel_rfl) (by kernel_rfl) (fun _ _ _ h => nomatch h.2.1) (Or.inl ⟨by rfl, fun W9 h9 => by simp only [execOp]; go_simp⟩) hK ?_
    simp only [zz1, zz2, zz3, Act.put, mixA, mixL, zz9, zz0, zz4, zz5, zz6]
    refine wpAnyH_take (i := 1) (v := .int .i64 (((a : Nat) : Int))) rfl (by kernel_rfl) (by kernel_rfl) (by kernel_rfl) (fun _ _ _ h => nomatch h.2.1) (Or.inl ⟨by rfl, fun W9 h9 => by have q9 := h9.cell 1; simp only [zz7, zz8] at q9; simp only [execOp]; go_simp⟩) hK ?_
    simp only [zz1, zz2, zz3, Act.put, mixA, mixL, zz9, zz0, zz4, zz5, zz6]
    refine wpAnyH_take (i := 2) (v := .pointer (some ⟨CB, 2, none⟩)) rfl (by kernel_rfl) (by kernel_rfl) (by kernel_rfl) (fun _ _ _ h => nomatch h.2.1) (Or.inl ⟨by rfl, fun W9 h9 => by simp only [execOp]; go_simp⟩) hK ?_
    simp only [zz1, zz2, zz3, Act.put, mixA, mixL, zz9, zz0, zz4, zz5, zz6]
    refine wpAnyH_take (i := 3) (v := .int .i64 (((b : Nat) : Int))) rfl (by kernel_rfl) (by kernel_rfl) (by kernel_rfl) (fun _ _ _ h => nomatch h.2.1) (Or.inl ⟨by rfl, fun W9 h9 => by have q9 := h9.cell 2; simp only [zz7, zz8] at q9; simp only [execOp]; go_simp⟩) hK ?_
    simp only [zz1, zz2, zz3, Act.put, mixA, mixL, zz9, zz0, zz4, zz5, zz6]
    refine wpAnyH_take (i := 4) (v := .pointer (some ⟨A, 1, none⟩)) rfl (by kernel_rfl) (by kernel_rfl) (by kernel_rfl) (fun _ _ _ h => nomatch h.2.1) (Or.inl ⟨by rfl, fun W9 h9 => by simp only [execOp]; go_simp⟩) hK ?_
    simp only [zz1, zz2, zz3, Act.put, mixA, mixL, zz9, zz0, zz4, zz5, zz6]
    refine wpAnyH_take (i := 5) (v := .pointer (some ⟨A, 1 + b, none⟩)) rfl (by kernel_rfl) (by kernel_rfl) (by kernel_rfl) (fun _ _ _ h => nomatch h.2.1) (Or.inl ⟨by rfl, fun W9 h9 => by simp only [execOp]; go_simp⟩) hK ?_
    simp only [zz1, zz2, zz3, Act.put, mixA, mixL, zz9, zz0, zz4, zz5, zz6]
    refine wpAnyH_take (i := 11) (v := .pointer (some ⟨A, 1, none⟩)) rfl (by kernel_rfl) (by kernel_rfl) (by kernel_rfl) (fun _ _ _ h => nomatch h.2.1) (Or.inl ⟨by rfl, fun W9 h9 => by simp only [execOp]; go_simp⟩) hK ?_
    simp only [zz1, zz2, zz3, Act.put, mixA, mixL, zz9, zz0, zz4, zz5, zz6]
    refine wpAnyH_go [6] (by kernel_rfl) (by simp) ⟨⟨_, rfl, rfl, ?_⟩, trivial⟩
    refine rn_ld_29 (q := ⟨A, 1 + b, none⟩) (v := .int .i16 (s.reg b)) (ev rfl) (by rw [HP9.out.cpu.cell]; exact stv_at HS7.out (by omega)) ?_
    refine ⟨hK, ?_⟩
    simp only [zz1, zz2, zz3, Act.put, mixA, mixL, zz9, zz0, zz4, zz5, zz6]
    refine wpAnyH_go [7] (by kernel_rfl) (by simp) ⟨⟨_, rfl, rfl, ?_⟩, trivial⟩
    refine runs_c2 en_run rfl (ev rfl) ((runary_1 (s.reg b) (HS.out.reg b) _).mono ?_)
    rintro r8 w8 ⟨rfl, rfl⟩
    refine ⟨_, rfl, hK, ?_⟩
    simp only [zz1, zz2, zz3, Act.put, mixA, mixL, zz9, zz0, zz4, zz5, zz6]
    refine wpAnyH_take (i := 8) (v := .tuple #[.int .i16 (unv 1 (s.reg b)), .int .i64 (0)]) rfl (by kernel_rfl) (by kernel_rfl) (by kernel_rfl) (fun _ _ _ h => nomatch h.2.1) (Or.inl ⟨by rfl, fun W9 h9 => by simp only [execOp]; go_simp⟩) hK ?_
    simp only [zz1, zz2, zz3, Act.put, mixA, mixL, zz9, zz0, zz4, zz5, zz6]
    refine wpAnyH_take (i := 9) (v := .int .i16 (unv 1 (s.reg b))) rfl (by kernel_rfl) (by kernel_rfl) (by kernel_rfl) (fun _ _ _ h => nomatch h.2.1) (Or.inl ⟨by rfl, fun W9 h9 => by simp only [execOp]; go_simp⟩) hK ?_
    simp only [zz1, zz2, zz3, Act.put, mixA, mixL, zz9, zz0, zz4, zz5, zz6]
    refine wpAnyH_take (i := 10) (v := .int .i64 (0)) rfl (by kernel_rfl) (by kernel_rfl) (by kernel_rfl) (fun _ _ _ h => nomatch h.2.1) (Or.inl ⟨by rfl, fun W9 h9 => by simp only [execOp]; go_simp⟩) hK ?_
    simp only [zz1, zz2, zz3, Act.put, mixA, mixL, zz9, zz0, zz4, zz5, zz6]
    refine wpAnyH_take (i := 12) (v := .pointer (some ⟨A, 1 + a, none⟩)) rfl (by kernel_rfl) (by kernel_rfl) (by kernel_rfl) (fun _ _ _ h => nomatch h.2.1) (Or.inl ⟨by rfl, fun W9 h9 => by simp only [execOp]; go_simp⟩) hK ?_
    simp only [zz1, zz2, zz3, Act.put, mixA, mixL, zz9, zz0, zz4, zz5, zz6]
    refine wpAnyH_go [13] (by kernel_rfl) (by simp) ⟨⟨_, rfl, rfl, ?_⟩, trivial⟩
    refine rn_st_29 (q := ⟨A, 1 + a, none⟩) (z := unv 1 (s.reg b)) (v' := .int .i16 (s.reg a)) (ev rfl) (ev rfl) (by rw [HP9.out.cpu.cell]; exact stv_at HS7.out (by omega)) (HP9.out.cpu.free _) ?_
    have hKs := hK.other A (1 + a) (.int .i16 (unv 1 (s.reg b))) HNE.out.1
    have HPs : Hid (Pf STT N A q S6 (s.to a (unv 1 (s.reg b)) (s.pc + 1)) (spend W ((4 : Nat) : Int)) V6 (World.setCell _ ⟨A, 1 + a, none⟩ (.int .i16 (unv 1 (s.reg b))))) := Lib.hid (HP9.out.set a (unv 1 (s.reg b)))
    generalize World.setCell _ _ _ = Vs at hKs HPs ⊢
    refine ⟨hKs, ?_⟩
    clear hK HP9
    have hK := hKs
    have HP9 := Lib.hid HPs.out
    clear hKs HPs
    simp only [zz1, zz2, zz3, Act.put, mixA, mixL, zz9, zz0, zz4, zz5, zz6]
    refine wpAnyH_done (by kernel_rfl) ?_ _
    try simp only [zz1, zz2, zz3, Act.put, mixA, mixL, zz9, zz0, zz4, zz5, zz6]
    go_upto_region 61 with fail
    have hO8 := HP9.out.other HO.out (HB6.out.aside HO.out) (Ne.symm HAO.out)
    have hZ8 := HP9.out.other HZ.out (HB6.out.aside HZ.out) HZN.out.1
    refine wp_region_list ?_
    refine load_st Tryd.underlying33 sizeS rfl (.tmp 3) rfl A rfl (s.to a (unv 1 (s.reg b)) (s.pc + 1)) (HS.out.to a _ (unv_16 _ _)) HP9.out.cpu ?_
    simp only [zz1, zz2, zz3, Act.put, mixA, mixL, zz9, zz0, zz4, zz5, zz6]
    refine wpList_runs rfl (some 306) rfl (runs_mv (ev rfl) ?_)
    simp only [zz1, zz2, zz3, Act.put, mixA, mixL, zz9, zz0, zz4, zz5, zz6]
    refine store_st sizeS rfl (.tmp 6) (.tmp 305) rfl O rfl (s.to a (unv 1 (s.reg b)) (s.pc + 1)) zst (HS.out.to a _ (unv_16 _ _)) zst_ok rfl hO8 fun w9 hB9 c9 => ?_
    simp only [zz1, zz2, zz3, Act.put, mixA, mixL, zz9, zz0, zz4, zz5, zz6]
    refine wpList_runs rfl (some 7) rfl (runs_mva (ev rfl) ?_)
    simp only [zz1, zz2, zz3, Act.put, mixA, mixL, zz9, zz0, zz4, zz5, zz6]
    go_wp2
    refine ret_st Tryd.results15 (HS.out.to a _ (unv_16 _ _)) rfl rfl hB9 ?_
    obtain ⟨hcpu8, S8, hb8, m8⟩ := HP9.out
    first | rw [HGO.out] | rw [show go1 ⟨((4 : Nat) : Int), a, b, d, i⟩ (opnd ⟨((4 : Nat) : Int), a, b, d, i⟩ s I).1 s W = _ from HGO.out]
    exact ⟨rfl, S8, hb8.chg c9 fun k hk e => by have e2 : k = O := e; subst e2; exact hb8.aside hO8 (by decide) hk, Moved.skip (Moved.skip HM6.out m8 HAL.out) ⟨c9.mono fun k hk => .inl hk, fun k hk => .inl hk⟩ HOL.out⟩
  · refine sw_no (z := 5) rfl (by decide) rfl rfl ?_
    refine wp_act (by simp only [zz1, zz2, zz3, Act.put, mixA, mixL, zz9, zz0, zz4, zz5, zz6]; rfl) ?_
    refine sw_no (z := 5) rfl (by decide) rfl rfl ?_
    refine wp_act (by simp only [zz1, zz2, zz3, Act.put, mixA, mixL, zz9, zz0, zz4, zz5, zz6]; rfl) ?_
    refine sw_no (z := 5) rfl (by decide) rfl rfl ?_
    refine wp_act (by simp only [zz1, zz2, zz3, Act.put, mixA, mixL, zz9, zz0, zz4, zz5, zz6]; rfl) ?_
    refine sw_no (z := 5) rfl (by decide) rfl rfl ?_
    refine wp_act (by simp only [zz1, zz2, zz3, Act.put, mixA, mixL, zz9, zz0, zz4, zz5, zz6]; rfl) ?_
    refine sw_yes (z := 5) rfl (by decide) rfl rfl ?_
    refine wp_act (by simp only [zz1, zz2, zz3, Act.put, mixA, mixL, zz9, zz0, zz4, zz5, zz6]; rfl) ?_
    have HGO : Hid (go1 ⟨(5 : Int), a, b, d, i⟩ ((opnd ⟨(5 : Int), a, b, d, i⟩ s I).1) s W = ((s.to a (unv 2 (s.reg b)) (s.pc + 1)), 1, (spend W ((5 : Nat) : Int)))) := Lib.hid (by unfold go1; rw [if_pos (show (spend W (5 : Int)).okb = true from HSP.out)]; rfl)
    go_upto_region 24 with fail
    have hgd : Grew V7 V7.drew := (Grew.refl _).drw
    have HP9 := Lib.hid (HP7.out.grew hgd)
    have hK := HC7.out.grew hgd
    clear s0 sf sA sB sD c0 c1 c2 c3 c4 hgd
    refine wp_region_held_drew (S := fun W9 => Blk CB [.int .i64 ((5 : Nat) : Int), .int .i64 a, .int .i64 b, .int .i64 d, .int .i16 i] 72 W9) (by kernel_rfl) hK fun _ => ?_
    refine wpAnyH_take (i := 0) (v := .pointer (some ⟨CB, 1, none⟩)) rfl (by kernel_rfl) (by kernel_rfl) (by kernel_rfl) (fun _ _ _ h => nomatch h.2.1) (Or.inl ⟨by rfl, fun W9 h9 => by simp only [execOp]; go_simp⟩) hK ?_
    simp only [zz1, zz2, zz3, Act.put, mixA, mixL, zz9, zz0, zz4, zz5, zz6]
    refine wpAnyH_take (i := 1) (v := .int .i64 (((a : Nat) : Int))) rfl (by kernel_rfl) (by kernel_rfl) (by kernel_rfl) (fun _ _ _ h => nomatch h.2.1) (Or.inl ⟨by rfl, fun W9 h9 => by have q9 := h9.cell 1; simp only [zz7, zz8] at q9; simp only [execOp]; go_simp⟩) hK ?_
    simp only [zz1, zz2, zz3, Act.put, mixA, mixL, zz9, zz0, zz4, zz5, zz6]
    refine wpAnyH_take (i := 2) (v := .pointer (some ⟨CB, 2, none⟩)) rfl (by kernel_rfl) (by kernel_rfl) (by kernel_rfl) (fun _ _ _ h => nomatch h.2.1) (Or.inl ⟨by rfl, fun W9 h9 => by simp only [execOp]; go_simp⟩) hK ?_
    simp only [zz1, zz2, zz3, Act.put, mixA, mixL, zz9, zz0, zz4, zz5, zz6]
    refine wpAnyH_take (i := 3) (v := .int .i64 (((b : Nat) : Int))) rfl (by kernel_rfl) (by kernel_rfl) (by kernel_rfl) (fun _ _ _ h => nomatch h.2.1) (Or.inl ⟨by rfl, fun W9 h9 => by have q9 := h9.cell 2; simp only [zz7, zz8] at q9; simp only [execOp]; go_simp⟩) hK ?_
    simp only [zz1, zz2, zz3, Act.put, mixA, mixL, zz9, zz0, zz4, zz5, zz6]
    refine wpAnyH_take (i := 4) (v := .pointer (some ⟨A, 1, none⟩)) rfl (by kernel_rfl) (by kernel_rfl) (by kernel_rfl) (fun _ _ _ h => nomatch h.2.1) (Or.inl ⟨by rfl, fun W9 h9 => by simp only [execOp]; go_simp⟩) hK ?_
    simp only [zz1, zz2, zz3, Act.put, mixA, mixL, zz9, zz0, zz4, zz5, zz6]
    refine wpAnyH_take (i := 5) (v := .pointer (some ⟨A, 1 + b, none⟩)) rfl (by kernel_rfl) (by kernel_rfl) (by kernel_rfl) (fun _ _ _ h => nomatch h.2.1) (Or.inl ⟨by rfl, fun W9 h9 => by simp only [execOp]; go_simp⟩) hK ?_
    simp only [zz1, zz2, zz3, Act.put, mixA, mixL, zz9, zz0, zz4, zz5, zz6]
    refine wpAnyH_take (i := 11) (v := .pointer (some ⟨A, 1, none⟩)) rfl (by kernel_rfl) (by kernel_rfl) (by kernel_rfl) (fun _ _ _ h => nomatch h.2.1) (Or.inl ⟨by rfl, fun W9 h9 => by simp only [execOp]; go_simp⟩) hK ?_
    simp only [zz1, zz2, zz3, Act.put, mixA, mixL, zz9, zz0, zz4, zz5, zz6]
    refine wpAnyH_go [6] (by kernel_rfl) (by simp) ⟨⟨_, rfl, rfl, ?_⟩, trivial⟩
    refine rn_ld_29 (q := ⟨A, 1 + b, none⟩) (v := .int .i16 (s.reg b)) (ev rfl) (by rw [HP9.out.cpu.cell]; exact stv_at HS7.out (by omega)) ?_
    refine ⟨hK, ?_⟩
    simp only [zz1, zz2, zz3, Act.put, mixA, mixL, zz9, zz0, zz4, zz5, zz6]
    refine wpAnyH_go [7] (by kernel_rfl) (by simp) ⟨⟨_, rfl, rfl, ?_⟩, trivial⟩
    refine runs_c2 en_run rfl (ev rfl) ((runary_2 (s.reg b) (HS.out.reg b) _).mono ?_)
    rintro r8 w8 ⟨rfl, rfl⟩
    refine ⟨_, rfl, hK, ?_⟩
    simp only [zz1, zz2, zz3, Act.put, mixA, mixL, zz9, zz0, zz4, zz5, zz6]
    refine wpAnyH_take (i := 8) (v := .tuple #[.int .i16 (unv 2 (s.reg b)), .int .i64 (0)]) rfl (by kernel_rfl) (by kernel_rfl) (by kernel_rfl) (fun _ _ _ h => nomatch h.2.1) (Or.inl ⟨by rfl, fun W9 h9 => by simp only [execOp]; go_simp⟩) hK ?_
    simp only [zz1, zz2, zz3, Act.put, mixA, mixL, zz9, zz0, zz4, zz5, zz6]
    refine wpAnyH_take (i := 9) (v := .int .i16 (unv 2 (s.reg b))) rfl (by kernel_rfl) (by kernel_rfl) (by kernel_rfl) (fun _ _ _ h => nomatch h.2.1) (Or.inl ⟨by rfl, fun W9 h9 => by simp only [execOp]; go_simp⟩) hK ?_
    simp only [zz1, zz2, zz3, Act.put, mixA, mixL, zz9, zz0, zz4, zz5, zz6]
    refine wpAnyH_take (i := 10) (v := .int .i64 (0)) rfl (by kernel_rfl) (by kernel_rfl) (by kernel_rfl) (fun _ _ _ h => nomatch h.2.1) (Or.inl ⟨by rfl, fun W9 h9 => by simp only [execOp]; go_simp⟩) hK ?_
    simp only [zz1, zz2, zz3, Act.put, mixA, mixL, zz9, zz0, zz4, zz5, zz6]
    refine wpAnyH_take (i := 12) (v := .pointer (some ⟨A, 1 + a, none⟩)) rfl (by kernel_rfl) (by kernel_rfl) (by kernel_rfl) (fun _ _ _ h => nomatch h.2.1) (Or.inl ⟨by rfl, fun W9 h9 => by simp only [execOp]; go_simp⟩) hK ?_
    simp only [zz1, zz2, zz3, Act.put, mixA, mixL, zz9, zz0, zz4, zz5, zz6]
    refine wpAnyH_go [13] (by kernel_rfl) (by simp) ⟨⟨_, rfl, rfl, ?_⟩, trivial⟩
    refine rn_st_29 (q := ⟨A, 1 + a, none⟩) (z := unv 2 (s.reg b)) (v' := .int .i16 (s.reg a)) (ev rfl) (ev rfl) (by rw [HP9.out.cpu.cell]; exact stv_at HS7.out (by omega)) (HP9.out.cpu.free _) ?_
    have hKs := hK.other A (1 + a) (.int .i16 (unv 2 (s.reg b))) HNE.out.1
    have HPs : Hid (Pf STT N A q S6 (s.to a (unv 2 (s.reg b)) (s.pc + 1)) (spend W ((5 : Nat) : Int)) V6 (World.setCell _ ⟨A, 1 + a, none⟩ (.int .i16 (unv 2 (s.reg b))))) := Lib.hid (HP9.out.set a (unv 2 (s.reg b)))
    generalize World.setCell _ _ _ = Vs at hKs HPs ⊢
    refine ⟨hKs, ?_⟩
    clear hK HP9
    have hK := hKs
    have HP9 := Lib.hid HPs.out
    clear hKs HPs
    simp only [zz1, zz2, zz3, Act.put, mixA, mixL, zz9, zz0, zz4, zz5, zz6]
    refine wpAnyH_done (by kernel_rfl) ?_ _
    try simp only [zz1, zz2, zz3, Act.put, mixA, mixL, zz9, zz0, zz4, zz5, zz6]
    go_upto_region 61 with fail
    have hO8 := HP9.out.other HO.out (HB6.out.aside HO.out) (Ne.symm HAO.out)
    have hZ8 := HP9.out.other HZ.out (HB6.out.aside HZ.out) HZN.out.1
    refine wp_region_list ?_
    refine load_st Tryd.underlying33 sizeS rfl (.tmp 3) rfl A rfl (s.to a (unv 2 (s.reg b)) (s.pc + 1)) (HS.out.to a _ (unv_16 _ _)) HP9.out.cpu ?_
    simp only [zz1, zz2, zz3, Act.put, mixA, mixL, zz9, zz0, zz4, zz5, zz6]
    refine wpList_runs rfl (some 306) rfl (runs_mv (ev rfl) ?_)
    simp only [zz1, zz2, zz3, Act.put, mixA, mixL, zz9, zz0, zz4, zz5, zz6]
    refine store_st sizeS rfl (.tmp 6) (.tmp 305) rfl O rfl (s.to a (unv 2 (s.reg b)) (s.pc + 1)) zst (HS.out.to a _ (unv_16 _ _)) zst_ok rfl hO8 fun w9 hB9 c9 => ?_
    simp only [zz1, zz2, zz3, Act.put, mixA, mixL, zz9, zz0, zz4, zz5, zz6]
    refine wpList_runs rfl (some 7) rfl (runs_mva (ev rfl) ?_)
    simp only [zz1, zz2, zz3, Act.put, mixA, mixL, zz9, zz0, zz4, zz5, zz6]
    go_wp2
    refine ret_st Tryd.results15 (HS.out.to a _ (unv_16 _ _)) rfl rfl hB9 ?_
    obtain ⟨hcpu8, S8, hb8, m8⟩ := HP9.out
    first | rw [HGO.out] | rw [show go1 ⟨((5 : Nat) : Int), a, b, d, i⟩ (opnd ⟨((5 : Nat) : Int), a, b, d, i⟩ s I).1 s W = _ from HGO.out]
    exact ⟨rfl, S8, hb8.chg c9 fun k hk e => by have e2 : k = O := e; subst e2; exact hb8.aside hO8 (by decide) hk, Moved.skip (Moved.skip HM6.out m8 HAL.out) ⟨c9.mono fun k hk => .inl hk, fun k hk => .inl hk⟩ HOL.out⟩
end Go.Proofs.YtbhglpiiabpdjaaDoor
