/-
  LAYER 12 (cpu): Step of the reference.
  LAYER 12 (cpu): Run of the reference.
-/
import Derived.Test.YtbhglpiiabpdjaaDoorShort
import Derived.Test.YtbhglpiiabpdjaaDoorCpuRI1
import Derived.Test.YtbhglpiiabpdjaaDoorCpuRI2
import Derived.Test.YtbhglpiiabpdjaaDoorCpuRI3
import Derived.Test.YtbhglpiiabpdjaaDoorCpuRI4
namespace Go.Proofs.YtbhglpiiabpdjaaDoor
open Go Go.RowKit Go.IntWalk Go.WideShapes
set_option linter.unusedSimpArgs false
set_option linter.unusedVariables false
set_option maxRecDepth 8000
/-- One step of the reference. -/
theorem rstep_any (I : Im) (r : Rest) (gp ap kp hp : Option Addr) (gc ac kc hc : Nat) (s : St) (hs : s.Ok) (W : Wd) (hWo : W.Ok) (N q : Nat) (S : Nat → Prop) (w : World) (hbus : Bus N w q W S) (hI : ImRows N w I gp ap kp gc ac kc) (hIo : I.Ok) (hl : W.cs.length ≤ 70000) (hN : N ≤ w.heap.size) :
    Calls Tryd.prog 15 #[.agg (stv s).toArray, .agg #[r.v0, .slice gp I.gs.length gc, .int .i64 I.sens, .int .i64 I.outs, .slice hp I.chans hc, r.v5, .slice ap I.addr.length ac, r.v7, r.v8, r.v9, r.v10, .slice kp I.code.length kc], .pointer (some ⟨q, 0, none⟩)] w fun e w' => e = .returned (.tuple #[.agg (stv (step I s W).1).toArray, .int .i64 ((step I s W).2.1)]) ∧ ∃ S', Bus N w' q ((step I s W).2.2) S' ∧ Moved No S S' w w' := by
  by_cases ht : trapd I s = true
  · have e : step I s W = (s, 5, W) := by
      unfold trapd at ht
      unfold step
      cases hx : I.at s.pc with
      | none => rfl
      | some x =>
        rw [hx] at ht
        simp only at ht ⊢
        rw [if_neg (by cases hv : valid x <;> cases ho : (opnd x s I).2 <;> simp_all)]
    rw [e]
    exact rstep_trap I r gp ap kp hp gc ac kc hc s hs W hWo N q S w hbus hI hIo hl hN ht
  · cases hx : I.at s.pc with
    | none => exact absurd (by unfold trapd; rw [hx]) ht
    | some x =>
      have hvo : valid x = true ∧ (opnd x s I).2 = true := by
        unfold trapd at ht
        rw [hx] at ht
        simp only at ht
        cases hv : valid x <;> cases ho : (opnd x s I).2 <;> simp_all
      obtain ⟨hv, ho⟩ := hvo
      have e : step I s W = go1 x (opnd x s I).1 s W := by
        unfold step
        rw [hx]
        simp only
        rw [hv, ho]
        rfl
      rw [e]
      obtain ⟨m, _, _, hm⟩ := Im.at_some hx
      have hi := hIo.code x (List.mem_of_getElem? hm)
      obtain ⟨k, a, b, d, hk1, hk, ha, hb, hd, hxe⟩ := valid_shape hv
      generalize x.i = i at hxe hi
      subst hxe
      cases hsp : (spend W (k : Int)).okb with
      | false =>
        have e2 : go1 ⟨k, a, b, d, i⟩ (opnd ⟨k, a, b, d, i⟩ s I).1 s W = (s, 4, spend W (k : Int)) := by
          unfold go1
          rw [if_neg (by rw [show (spend W (⟨k, a, b, d, i⟩ : Cd).op).okb = false from hsp]; decide)]
        rw [e2]
        exact rstep_poor I r gp ap kp hp gc ac kc hc s hs W hWo N q S w hbus hI hIo hl hN k a b d i hx hv hi ha hb hd ho hsp
      | true =>
        have hk2 : (k = 2 ∨ k = 29 ∨ k = 21 ∨ k = 1) ∨ (k = 15 ∨ k = 24 ∨ k = 25) ∨ (k = 26 ∨ k = 27 ∨ k = 28) ∨ (k = 22 ∨ k = 19) ∨ (k = 3 ∨ k = 14) ∨ (k = 23) ∨ (k = 4 ∨ k = 5) ∨ (k = 6 ∨ k = 7 ∨ k = 8) ∨ (k = 9 ∨ k = 10 ∨ k = 11) ∨ (k = 12 ∨ k = 13 ∨ k = 30) ∨ (k = 20) ∨ (k = 16) ∨ (k = 17) ∨ (k = 18) := by omega
        rcases hk2 with h | h | h | h | h | h | h | h | h | h | h | h | h | h
        · exact rgo_a I r gp ap kp hp gc ac kc hc s hs W hWo N q S w hbus hI hIo hl hN k a b d i hx hv hi ha hb hd ho hsp h
        · exact rgo_b I r gp ap kp hp gc ac kc hc s hs W hWo N q S w hbus hI hIo hl hN k a b d i hx hv hi ha hb hd ho hsp h
        · exact rgo_c I r gp ap kp hp gc ac kc hc s hs W hWo N q S w hbus hI hIo hl hN k a b d i hx hv hi ha hb hd ho hsp h
        · exact rgo_d I r gp ap kp hp gc ac kc hc s hs W hWo N q S w hbus hI hIo hl hN k a b d i hx hv hi ha hb hd ho hsp h
        · exact rgo_e I r gp ap kp hp gc ac kc hc s hs W hWo N q S w hbus hI hIo hl hN k a b d i hx hv hi ha hb hd ho hsp h
        · exact rgo_f I r gp ap kp hp gc ac kc hc s hs W hWo N q S w hbus hI hIo hl hN k a b d i hx hv hi ha hb hd ho hsp h
        · exact rgo_g I r gp ap kp hp gc ac kc hc s hs W hWo N q S w hbus hI hIo hl hN k a b d i hx hv hi ha hb hd ho hsp h
        · exact rgo_h I r gp ap kp hp gc ac kc hc s hs W hWo N q S w hbus hI hIo hl hN k a b d i hx hv hi ha hb hd ho hsp h
        · exact rgo_i I r gp ap kp hp gc ac kc hc s hs W hWo N q S w hbus hI hIo hl hN k a b d i hx hv hi ha hb hd ho hsp h
        · exact rgo_j I r gp ap kp hp gc ac kc hc s hs W hWo N q S w hbus hI hIo hl hN k a b d i hx hv hi ha hb hd ho hsp h
        · exact rgo_k I r gp ap kp hp gc ac kc hc s hs W hWo N q S w hbus hI hIo hl hN k a b d i hx hv hi ha hb hd ho hsp h
        · exact rgo_l I r gp ap kp hp gc ac kc hc s hs W hWo N q S w hbus hI hIo hl hN k a b d i hx hv hi ha hb hd ho hsp h
        · exact rgo_m I r gp ap kp hp gc ac kc hc s hs W hWo N q S w hbus hI hIo hl hN k a b d i hx hv hi ha hb hd ho hsp h
        · exact rgo_n I r gp ap kp hp gc ac kc hc s hs W hWo N q S w hbus hI hIo hl hN k a b d i hx hv hi ha hb hd ho hsp h
end Go.Proofs.YtbhglpiiabpdjaaDoor
namespace Go.Proofs.YtbhglpiiabpdjaaDoor
open Go Go.RowKit Go.IntWalk Go.WideShapes
set_option linter.unusedSimpArgs false
set_option linter.unusedVariables false
set_option maxRecDepth 60000
/-- A state and two numbers are handed back. -/
theorem ret_st3 {fn : Func} {p0 p1 p2 : Tmp} (h : fn.results = #[.cell p0 33, .tmp p1, .tmp p2]) {tmps : Array Value} {w : World} {S0 : Nat} {s : St} {v u : Value} {R : Ending → World → Prop} (hs : s.Ok) (hp0 : tmps.getD p0 undef = .pointer (some ⟨S0, 0, none⟩)) (hp1 : tmps.getD p1 undef = v) (hp2 : tmps.getD p2 undef = u) (hb : Blk S0 (stv s) 33 w)
    (hR : R (.returned (.tuple #[.agg (stv s).toArray, v, u])) w) : bodyPost Tryd.prog fn R .ret { tmps := tmps, defers := [] } w := by
  refine bodyPost_ret (v := .tuple #[.agg (stv s).toArray, v, u]) ?_ rfl hR
  rw [Array.getD_eq_getD_getElem?] at hp0 hp1 hp2
  have hl := run_loadVar_mid (P := Tryd.prog) w S0 0 33 (stv s) _ hb.range Tryd.underlying33 rfl (by rw [sizeS, stv_len hs])
  simp [results, h, hp0, hp1, hp2, asAddr, hl]
theorem en_stp : Enters Tryd.prog 15 := fun args w => by go_simp
set_option maxHeartbeats 20000000 in
/-- The reference's run. -/
theorem rrun_any (L : Nat) (I : Im) (r : Rest) (gp ap kp hp : Option Addr) (gc ac kc hc : Nat) (s : St) (hs : s.Ok) (W : Wd) (hWo : W.Ok) (N q : Nat) (S : Nat → Prop) (w : World) (hbus : Bus N w q W S) (hI : ImRows N w I gp ap kp gc ac kc) (hIo : I.Ok) (hl : W.cs.length + 2 * L ≤ 70000) (hN : N ≤ w.heap.size) :
    Calls Tryd.prog 19 #[.agg (stv s).toArray, .agg #[r.v0, .slice gp I.gs.length gc, .int .i64 I.sens, .int .i64 I.outs, .slice hp I.chans hc, r.v5, .slice ap I.addr.length ac, r.v7, r.v8, r.v9, r.v10, .slice kp I.code.length kc], .pointer (some ⟨q, 0, none⟩), .int .i64 (L : Int)] w fun e w' => e = .returned (.tuple #[.agg (stv (runN I L s W).1).toArray, .int .i64 (runN I L s W).2.1, .int .i64 ((runN I L s W).2.2.1 : Nat)]) ∧ (∃ S', Bus N w' q (runN I L s W).2.2.2 S' ∧ Moved No S S' w w') ∧ (runN I L s W).1.Ok ∧ (runN I L s W).2.2.2.Ok := by
  have hLb : L ≤ 35000 := by omega
  have HS := Lib.hid hs
  have HWO := Lib.hid hWo
  have HIO := Lib.hid hIo
  have HIR := Lib.hid hI
  have HBU := Lib.hid hbus
  have HL := Lib.hid hl
  have HN := Lib.hid hN
  clear hs hWo hIo hI hbus hl hN
  go_enter Tryd.func19, Tryd.ntmps19
  go_upto_region 0 with fail
  refine wp_region_list ?_
  refine wpList_box_whole rfl _ _ rfl (stv s) rfl fun w1 hB1 g1 => ?_
  simp only [zz1, zz2, zz3, Act.put, mixA, mixL, zz9, zz0, zz4, zz5, zz6]
  refine wpList_box_whole rfl _ _ rfl [r.v0, .slice gp I.gs.length gc, .int .i64 I.sens, .int .i64 I.outs, .slice hp I.chans hc, r.v5, .slice ap I.addr.length ac, r.v7, r.v8, r.v9, r.v10, .slice kp I.code.length kc] rfl fun w2 bx g2 => ?_
  simp only [zz1, zz2, zz3, Act.put, mixA, mixL, zz9, zz0, zz4, zz5, zz6]
  refine alloc_st rfl rfl fun w3 hO g3 => ?_
  simp only [zz1, zz2, zz3, Act.put, mixA, mixL, zz9, zz0, zz4, zz5, zz6]
  have HG := Lib.hid ((g1.trans g2).trans g3)
  have HSB := Lib.hid ((hB1.grew g2).grew g3)
  have HBX := Lib.hid (bx.grew g3)
  have HO := Lib.hid hO
  have HAO : Hid (w.heap.size ≠ w2.heap.size) := Lib.hid (by have := (hB1.grew g2).lt; omega)
  have HOL : Hid (w.heap.size ≤ w2.heap.size) := Lib.hid (g1.trans g2).sz
  generalize w2.heap.size = O at HO hO HAO HOL ⊢
  generalize w1.heap.size = X at HBX bx ⊢
  have HAL : Hid (w.heap.size ≤ w.heap.size) := Lib.hid (Nat.le_refl _)
  obtain ⟨A, hA⟩ : ∃ A, A = w.heap.size := ⟨_, rfl⟩
  rw [← hA] at HSB HAO ⊢
  replace HAL : Hid (w.heap.size ≤ A) := Lib.hid (Nat.le_of_eq hA.symm)
  clear g1 g2 g3 hB1 bx hO hA
  go_wp2
  go_loopg [11, 12] L (fun gg ov nv wr => ∃ (k : Nat) (o : Int) (s1 : St) (W1 : Wd), ov = .int .i64 o ∧ nv = .int .i64 (k : Int) ∧ k ≤ L ∧ gg = L - k ∧ Hid (RunRel I L s W k o s1 W1) ∧ Hid ((∃ S1, Bus N wr q W1 S1 ∧ Moved No S S1 w wr) ∧ Blk A (stv s1) 33 wr ∧ Blk X [r.v0, .slice gp I.gs.length gc, .int .i64 I.sens, .int .i64 I.outs, .slice hp I.chans hc, r.v5, .slice ap I.addr.length ac, r.v7, r.v8, r.v9, r.v10, .slice kp I.code.length kc] 28 wr ∧ Blk O (stv zst) 33 wr) ∧ Hid (s1.Ok ∧ W1.Ok ∧ W1.cs.length ≤ W.cs.length + 2 * k))
  case atStart => exact ⟨0, 1, s, W, rfl, rfl, Nat.zero_le _, rfl, Lib.hid (RunRel.start I L s W), Lib.hid ⟨⟨S, HBU.out.grew HG.out, Moved.of_grew _ _ HG.out⟩, HSB.out, HBX.out, HO.out⟩, Lib.hid ⟨HS.out, HWO.out, by omega⟩⟩
  case round =>
    obtain ⟨k, o, s1, W1, rfl, rfl, hk, rfl, HR, HP, HK⟩ := hrel
    by_cases ho : o = 1
    · subst ho
      by_cases hlt : k < L
      · have b0 : (k : Int) < (L : Int) := by omega
        go_upto_region 3 with fail
        obtain ⟨⟨S1, hb1, hm1⟩, hA1, hX1, hO1⟩ := HP.out
        refine wp_region_list ?_
        refine wpList_runs rfl (some 21) rfl (runs_ldm 33 (ev rfl) hA1.range Tryd.underlying33 rfl (by rw [sizeS, stv_len HK.out.1]) ?_)
        simp only [zz1, zz2, zz3, Act.put, mixA, mixL, zz9, zz0, zz4, zz5, zz6]
        refine wpList_runs rfl (some 22) rfl (runs_ldm 28 (ev rfl) hX1.range Tryd.underlying28 rfl (by rw [sizeI]; rfl) ?_)
        simp only [zz1, zz2, zz3, Act.put, mixA, mixL, zz9, zz0, zz4, zz5, zz6]
        refine wpList_runs rfl (some 23) rfl (runs_mv (ev rfl) ?_)
        simp only [zz1, zz2, zz3, Act.put, mixA, mixL, zz9, zz0, zz4, zz5, zz6]
        refine wpList_runs rfl (some 24) rfl (runs_c3 en_stp (ev rfl) (ev rfl) (ev rfl) ((rstep_any I r gp ap kp hp gc ac kc hc s1 HK.out.1 W1 HK.out.2.1 N q S1 _ hb1 (HIR.out.chg hm1.chg (fun k hk => hk.elim (fun h => h.elim) fun h => (HBU.out.low k h).1)) HIO.out (by have := HK.out.2.2; have := HL.out; omega) (Nat.le_trans HN.out hm1.size)).mono ?_))
        rintro e w5 ⟨rfl, S5, hb5, hm5⟩
        refine ⟨_, rfl, ?_⟩
        simp only [zz1, zz2, zz3, Act.put, mixA, mixL, zz9, zz0, zz4, zz5, zz6]
        have hA5 := hA1.moved hb1 hm5 (by decide)
        have hX5 := hX1.moved hb1 hm5 (by decide)
        have hO5 := hO1.moved hb1 hm5 (by decide)
        refine wpList_runs rfl (some 20) rfl (runs_mv (ev rfl) ?_)
        simp only [zz1, zz2, zz3, Act.put, mixA, mixL, zz9, zz0, zz4, zz5, zz6]
        refine wpList_runs rfl (some 25) rfl (rn_ext (ev rfl) rfl ?_)
        simp only [zz1, zz2, zz3, Act.put, mixA, mixL, zz9, zz0, zz4, zz5, zz6]
        refine wpList_runs rfl (some 26) rfl (rn_ext (ev rfl) rfl ?_)
        simp only [zz1, zz2, zz3, Act.put, mixA, mixL, zz9, zz0, zz4, zz5, zz6]
        refine store_st sizeS rfl (.tmp 4) (.tmp 25) rfl A rfl (step I s1 W1).1 s1 (step_ok I HK.out.1 HK.out.2.1).1 HK.out.1 rfl hA5 fun w9 hA9 c9 => ?_
        simp only [zz1, zz2, zz3, Act.put, mixA, mixL, zz9, zz0, zz4, zz5, zz6]
        refine wpList_runs rfl (some 11) rfl (runs_mva (ev rfl) ?_)
        simp only [zz1, zz2, zz3, Act.put, mixA, mixL, zz9, zz0, zz4, zz5, zz6]
        have hX9 := hX5.chg c9 fun e => (hX5.ne hA5 (by decide)) e
        have hO9 := hO5.chg c9 fun e => HAO.out e.symm
        have HP9 := Lib.hid (show (∃ S1, Bus N w9 q (step I s1 W1).2.2 S1 ∧ Moved No S S1 w w9) ∧ Blk A (stv (step I s1 W1).1) 33 w9 ∧ Blk X [r.v0, .slice gp I.gs.length gc, .int .i64 I.sens, .int .i64 I.outs, .slice hp I.chans hc, r.v5, .slice ap I.addr.length ac, r.v7, r.v8, r.v9, r.v10, .slice kp I.code.length kc] 28 w9 ∧ Blk O (stv zst) 33 w9 from ⟨⟨S5, hb5.chg c9 fun k hk e => by have e2 : k = A := e; subst e2; exact hb5.aside hA5 (by decide) hk, Moved.skip (hm1.trans hm5) ⟨c9.mono fun k hk => .inl hk, fun k hk => .inl hk⟩ HAL.out⟩, hA9, hX9, hO9⟩)
        clear hb1 hm1 hA1 hX1 hO1 hb5 hm5 hA5 hX5 hO5 hA9 c9 hX9 hO9 HP
        go_wp2
        go_roundg (L - (k + 1))
        case measure => omega
        case rel => exact ⟨k + 1, (step I s1 W1).2.1, (step I s1 W1).1, (step I s1 W1).2.2, rfl, by go_num, hlt, rfl, Lib.hid (HR.out.next hlt), HP9, Lib.hid ⟨(step_ok I HK.out.1 HK.out.2.1).1, (step_ok I HK.out.1 HK.out.2.1).2, by have := step_len I s1 W1; have := HK.out.2.2; omega⟩⟩
      · have b0 : ¬ (k : Int) < (L : Int) := by omega
        have HE' := Lib.hid (HR.out.stop (.inr (by omega)))
        obtain ⟨⟨S1, hb1, hm1⟩, hA1, hX1, hO1⟩ := HP.out
        go_upto_region 5 with fail
        refine wp_region_list ?_
        refine load_st Tryd.underlying33 sizeS rfl (.tmp 4) rfl A rfl s1 HK.out.1 hA1 ?_
        simp only [zz1, zz2, zz3, Act.put, mixA, mixL, zz9, zz0, zz4, zz5, zz6]
        refine wpList_runs rfl (some 30) rfl (runs_mv (ev rfl) ?_)
        simp only [zz1, zz2, zz3, Act.put, mixA, mixL, zz9, zz0, zz4, zz5, zz6]
        refine wpList_runs rfl (some 31) rfl (runs_mv (ev rfl) ?_)
        simp only [zz1, zz2, zz3, Act.put, mixA, mixL, zz9, zz0, zz4, zz5, zz6]
        refine store_st sizeS rfl (.tmp 8) (.tmp 29) rfl O rfl s1 zst HK.out.1 zst_ok rfl hO1 fun w9 hB9 c9 => ?_
        simp only [zz1, zz2, zz3, Act.put, mixA, mixL, zz9, zz0, zz4, zz5, zz6]
        refine wpList_runs rfl (some 9) rfl (runs_mva (ev rfl) ?_)
        simp only [zz1, zz2, zz3, Act.put, mixA, mixL, zz9, zz0, zz4, zz5, zz6]
        refine wpList_runs rfl (some 10) rfl (runs_mva (ev rfl) ?_)
        simp only [zz1, zz2, zz3, Act.put, mixA, mixL, zz9, zz0, zz4, zz5, zz6]
        go_wp2
        refine ret_st3 Tryd.results19 HK.out.1 rfl rfl rfl hB9 ?_
        rw [HE'.out]
        exact ⟨rfl, ⟨S1, hb1.chg c9 fun k hk e => by have e2 : k = O := e; subst e2; exact hb1.aside hO1 (by decide) hk, Moved.skip hm1 ⟨c9.mono fun k hk => .inl hk, fun k hk => .inl hk⟩ HOL.out⟩, HK.out.1, HK.out.2.1⟩
    · have q0 : (o == 1) = false := by simpa using ho
      have HE' := Lib.hid (HR.out.stop (.inl ho))
      clear ho
      obtain ⟨⟨S1, hb1, hm1⟩, hA1, hX1, hO1⟩ := HP.out
      go_upto_region 5 with fail
      refine wp_region_list ?_
      refine load_st Tryd.underlying33 sizeS rfl (.tmp 4) rfl A rfl s1 HK.out.1 hA1 ?_
      simp only [zz1, zz2, zz3, Act.put, mixA, mixL, zz9, zz0, zz4, zz5, zz6]
      refine wpList_runs rfl (some 30) rfl (runs_mv (ev rfl) ?_)
      simp only [zz1, zz2, zz3, Act.put, mixA, mixL, zz9, zz0, zz4, zz5, zz6]
      refine wpList_runs rfl (some 31) rfl (runs_mv (ev rfl) ?_)
      simp only [zz1, zz2, zz3, Act.put, mixA, mixL, zz9, zz0, zz4, zz5, zz6]
      refine store_st sizeS rfl (.tmp 8) (.tmp 29) rfl O rfl s1 zst HK.out.1 zst_ok rfl hO1 fun w9 hB9 c9 => ?_
      simp only [zz1, zz2, zz3, Act.put, mixA, mixL, zz9, zz0, zz4, zz5, zz6]
      refine wpList_runs rfl (some 9) rfl (runs_mva (ev rfl) ?_)
      simp only [zz1, zz2, zz3, Act.put, mixA, mixL, zz9, zz0, zz4, zz5, zz6]
      refine wpList_runs rfl (some 10) rfl (runs_mva (ev rfl) ?_)
      simp only [zz1, zz2, zz3, Act.put, mixA, mixL, zz9, zz0, zz4, zz5, zz6]
      go_wp2
      refine ret_st3 Tryd.results19 HK.out.1 rfl rfl rfl hB9 ?_
      rw [HE'.out]
      exact ⟨rfl, ⟨S1, hb1.chg c9 fun k hk e => by have e2 : k = O := e; subst e2; exact hb1.aside hO1 (by decide) hk, Moved.skip hm1 ⟨c9.mono fun k hk => .inl hk, fun k hk => .inl hk⟩ HOL.out⟩, HK.out.1, HK.out.2.1⟩
end Go.Proofs.YtbhglpiiabpdjaaDoor
