/-
  THE STATEMENT FailureChangesNothing OF LAYER 12 (cpu), WALKED.
-/
import Derived.Test.YtbhglpiiabpdjaaDoorCpuZ
namespace Go.Proofs.YtbhglpiiabpdjaaDoor
open Go Go.RowKit Go.IntWalk Go.WideShapes
set_option linter.unusedSimpArgs false
set_option linter.unusedVariables false
set_option maxRecDepth 8000
section
variable {dst : Option Tmp} {ty : TypeId} {pos : String} {after : Array Edge} {g : Option (Nat × Bool)} {a : Act} {w : World} {T : Value → World → Prop}
theorem rn_fld_39_0 {x : Operand} {S o : Nat} (hx : a.eval x = .pointer (some ⟨S, o, none⟩)) (h : T (.pointer (some ⟨S, o, none⟩)) w) : Runs Tryd.prog ⟨dst, .fieldAddr 39 x 0, ty, pos, after, g⟩ a w T := by
  refine Runs.value (v := .pointer (some ⟨S, o, none⟩)) (w' := w) ?_ h
  simp only [execOp, hx]
  go_simp
theorem rn_fld_39_1 {x : Operand} {S o : Nat} (hx : a.eval x = .pointer (some ⟨S, o, none⟩)) (h : T (.pointer (some ⟨S, o + 73, none⟩)) w) : Runs Tryd.prog ⟨dst, .fieldAddr 39 x 1, ty, pos, after, g⟩ a w T := by
  refine Runs.value (v := .pointer (some ⟨S, o + 73, none⟩)) (w' := w) ?_ h
  simp only [execOp, hx]
  go_simp
end
set_option maxHeartbeats 8000000 in
theorem fails_law (I : Im) (r : Rest) (gp ap kp hp : Option Addr) (gc ac kc hc : Nat) (s : St) (W : Wd) (wp rp cp : Option Addr) (wc rc cc : Nat) (w : World) (hI : ImRows w.heap.size w I gp ap kp gc ac kc) (hIo : I.Ok) (hs : s.Ok) (hWo : W.Ok) (hw : Rw 1 h16 w wp wc W.ws) (hr : Rw 1 h16 w rp rc W.rs) (hc' : Rw 3 clv w cp cc W.cs) (he : EnvN w.heap.size w) :
    Calls Tryd.prog 6 #[.agg #[r.v0, .slice gp I.gs.length gc, .int .i64 I.sens, .int .i64 I.outs, .slice hp I.chans hc, r.v5, .slice ap I.addr.length ac, r.v7, r.v8, r.v9, r.v10, .slice kp I.code.length kc], .agg (stv s ++ ([.slice wp W.ws.length wc, .slice rp W.rs.length rc, .int .i64 W.fl, .slice cp W.cs.length cc] : List Value)).toArray] w fun e w' => e = .returned (.bool true) ∧ Grew w w' := by
  have HS := Lib.hid hs
  have HIO := Lib.hid hIo
  have HWO := Lib.hid hWo
  have HRW := Lib.hid hw
  have HRR := Lib.hid hr
  have HRC := Lib.hid hc'
  have HIR := Lib.hid hI
  have HE := Lib.hid he
  obtain ⟨M, hM⟩ : ∃ M, M = w.heap.size := ⟨_, rfl⟩
  rw [← hM] at HE HIR
  have HM := Lib.hid (Nat.le_of_eq hM)
  clear hs hIo hWo hw hr hc' hI he hM
  go_enter Tryd.func6, Tryd.ntmps6
  go_upto_region 0 with fail
  refine wp_region_list ?_
  refine wpList_box_whole rfl _ _ rfl [r.v0, .slice gp I.gs.length gc, .int .i64 I.sens, .int .i64 I.outs, .slice hp I.chans hc, r.v5, .slice ap I.addr.length ac, r.v7, r.v8, r.v9, r.v10, .slice kp I.code.length kc] rfl fun w1 bx g1 => ?_
  simp only [List.getElem_toArray, List.getElem_cons_zero, List.getElem_cons_succ, Act.put, mixA, mixL, cond_true, cond_false, List.setIfInBounds_toArray, List.set_cons_zero, List.set_cons_succ]
  refine wpList_box_whole rfl _ _ rfl (stv s ++ ([.slice wp W.ws.length wc, .slice rp W.rs.length rc, .int .i64 W.fl, .slice cp W.cs.length cc] : List Value)) rfl fun w2 bk g2 => ?_
  simp only [List.getElem_toArray, List.getElem_cons_zero, List.getElem_cons_succ, Act.put, mixA, mixL, cond_true, cond_false, List.setIfInBounds_toArray, List.set_cons_zero, List.set_cons_succ]
  have HG := Lib.hid (g1.trans g2)
  have HBX := Lib.hid (bx.grew g2)
  have HBK := Lib.hid bk
  generalize w1.heap.size = K at HBK bk ⊢
  generalize w.heap.size = X at HBX ⊢
  clear bx bk g1 g2
  have HEV := Lib.hid (HE.out.grew HG.out)
  go_upto_region 3 with (go_at_call 10; (with_reducible refine (awake_any M _ HEV.out (Nat.le_trans HM.out HG.out.sz)).mono ?_); rintro e w3 ⟨rfl, g3⟩; replace HBX := Lib.hid (HBX.out.grew g3); replace HBK := Lib.hid (HBK.out.grew g3); replace HG := Lib.hid (HG.out.trans g3); clear g3 HEV)
  refine wp_region_list ?_
  refine wpList_runs rfl (some 11) rfl (runs_ldm 28 (ev rfl) (HBX.out.range) Tryd.underlying28 rfl (by rw [sizeI]; rfl) ?_)
  simp only [List.getElem_toArray, List.getElem_cons_zero, List.getElem_cons_succ, Act.put, mixA, mixL, cond_true, cond_false, List.setIfInBounds_toArray, List.set_cons_zero, List.set_cons_succ]
  refine wpList_runs rfl (some 12) rfl (rn_fld_39_1 (ev rfl) ?_)
  simp only [List.getElem_toArray, List.getElem_cons_zero, List.getElem_cons_succ, Act.put, mixA, mixL, cond_true, cond_false, List.setIfInBounds_toArray, List.set_cons_zero, List.set_cons_succ]
  refine wpList_runs rfl (some 13) rfl (runs_ldm 37 (ev rfl) (case_wd HS.out HBK.out) Tryd.underlying37 rfl (by rw [sizeW]; rfl) ?_)
  simp only [List.getElem_toArray, List.getElem_cons_zero, List.getElem_cons_succ, Act.put, mixA, mixL, cond_true, cond_false, List.setIfInBounds_toArray, List.set_cons_zero, List.set_cons_succ]
  refine wpList_runs rfl (some 14) rfl (runs_c2 en_sml (ev rfl) (ev rfl) ((small_any I r gp ap kp hp gc ac kc hc W wp rp cp wc rc cc _).mono ?_))
  rintro e V ⟨b, rfl, hsm, gV⟩
  refine ⟨_, rfl, ?_⟩
  simp only [List.getElem_toArray, List.getElem_cons_zero, List.getElem_cons_succ, Act.put, mixA, mixL, cond_true, cond_false, List.setIfInBounds_toArray, List.set_cons_zero, List.set_cons_succ]
  refine wpList_runs rfl (some 15) rfl (runs_nt (ev rfl) ?_)
  simp only [List.getElem_toArray, List.getElem_cons_zero, List.getElem_cons_succ, Act.put, mixA, mixL, cond_true, cond_false, List.setIfInBounds_toArray, List.set_cons_zero, List.set_cons_succ]
  replace HBX := Lib.hid (HBX.out.grew gV)
  replace HBK := Lib.hid (HBK.out.grew gV)
  replace HG := Lib.hid (HG.out.trans gV)
  clear gV
  cases b
  case false =>
    go_wp2
    go_ret
    exact ⟨rfl, HG.out⟩
  have HSM := Lib.hid (hsm rfl)
  clear hsm
  obtain ⟨N, hN⟩ : ∃ N, N = V.heap.size := ⟨_, rfl⟩
  have HN : Hid (M ≤ N) := Lib.hid (by have := HM.out; have := HG.out.sz; omega)
  have HNV := Lib.hid hN
  have HEN := Lib.hid ((HE.out.grew HG.out).up HN.out)
  have HIM : Hid (ImgAt N V X I) := Lib.hid ⟨r, gp, ap, kp, hp, gc, ac, kc, hc, HBX.out, (HIR.out.grew HG.out).up HN.out⟩
  have HSW : Hid W.Small := Lib.hid ⟨by have := HSM.out.ws; omega, by have := HSM.out.rs; omega, by have := HSM.out.cs; omega⟩
  clear hN HE HIR HM HN
  go_wp2
  go_loopg [5] 2 (fun gg iv wr => ∃ (k : Nat), iv = .int .i64 ((k : Int) + 1) ∧ k ≤ 2 ∧ gg = 2 - k ∧ Hid (Grew V wr))
  case atStart => exact ⟨0, rfl, Nat.zero_le _, rfl, Lib.hid (Grew.refl _)⟩
  case round =>
    obtain ⟨k, rfl, hk, rfl, HR⟩ := hrel
    by_cases hlt : k < 2
    · have HLT := Lib.hid (Nat.succ_le_of_lt hlt)
      have hle : (k : Int) + 1 ≤ 2 := by omega
      have HBK2 := Lib.hid (HBK.out.grew HR.out)
      go_upto_region 8 with fail
      refine wp_region_list ?_
      refine wpList_runs rfl (some 20) rfl (rn_fld_39_1 (ev rfl) ?_)
      simp only [List.getElem_toArray, List.getElem_cons_zero, List.getElem_cons_succ, Act.put, mixA, mixL, cond_true, cond_false, List.setIfInBounds_toArray, List.set_cons_zero, List.set_cons_succ]
      refine wpList_runs rfl (some 21) rfl (runs_ldm 37 (ev rfl) (case_wd HS.out HBK2.out) Tryd.underlying37 rfl (by rw [sizeW]; rfl) ?_)
      simp only [List.getElem_toArray, List.getElem_cons_zero, List.getElem_cons_succ, Act.put, mixA, mixL, cond_true, cond_false, List.setIfInBounds_toArray, List.set_cons_zero, List.set_cons_succ]
      refine wpList_runs rfl (some 22) rfl (runs_c1 en_cpy (ev rfl) ((copy_any W wp rp cp wc rc cc _ (HRW.out.kept (HG.out.trans HR.out)) (HRR.out.kept (HG.out.trans HR.out)) (HRC.out.kept (HG.out.trans HR.out)) HSW.out).mono ?_))
      rintro e wa ⟨p0, p1, p2, c0, c1, c2, rfl, hco, ga⟩
      refine ⟨_, rfl, ?_⟩
      simp only [List.getElem_toArray, List.getElem_cons_zero, List.getElem_cons_succ, Act.put, mixA, mixL, cond_true, cond_false, List.setIfInBounds_toArray, List.set_cons_zero, List.set_cons_succ]
      refine alloc_wd rfl rfl fun wb hQ gb => ?_
      simp only [List.getElem_toArray, List.getElem_cons_zero, List.getElem_cons_succ, Act.put, mixA, mixL, cond_true, cond_false, List.setIfInBounds_toArray, List.set_cons_zero, List.set_cons_succ]
      refine store_wd rfl (.tmp 6) (.tmp 22) rfl wa.heap.size rfl _ _ _ _ rfl rfl hQ fun wd hQ2 cq => ?_
      simp only [List.getElem_toArray, List.getElem_cons_zero, List.getElem_cons_succ, Act.put, mixA, mixL, cond_true, cond_false, List.setIfInBounds_toArray, List.set_cons_zero, List.set_cons_succ]
      have hco2 := (hco.grew gb).chg cq hQ
      have hqN : N ≤ wa.heap.size := by have := HNV.out; have := HR.out.sz; have := ga.sz; omega
      have hdn : N ≤ wr.heap.size := by have := HNV.out; have := HR.out.sz; omega
      have gd : Grew V wd := (HR.out.trans ga).trans (grew_lift gb cq fun k hk => by have e : k = wa.heap.size := hk; omega)
      have HQV : Hid (V.heap.size ≤ wa.heap.size) := Lib.hid (by have := HR.out.sz; have := ga.sz; omega)
      generalize wa.heap.size = q at hQ hQ2 cq hqN HQV ⊢
      have q2 := hQ2.cell 2
      have qf := hQ2.free
      have ql := hQ2.lt
      simp only [List.getElem?_cons_zero, List.getElem?_cons_succ] at q2
      go_upto_region 10 with fail
      generalize hW : World.setCell _ _ _ = we
      have hse : Chg wd we (fun k => k = q) := by subst hW; exact Chg.set _ _ _
      have hQ3 : Blk q [.slice p0 W.ws.length c0, .slice p1 W.rs.length c1, .int .i64 ((k : Int) + 1), .slice p2 W.cs.length c2] 37 we := by subst hW; exact hQ2.set 2 _
      have hco3 := (hco2.chg hse hQ2).down hdn
      have ge : Grew V we := grew_lift gd hse fun k hk => by have e : k = q := hk; have := HQV.out; omega
      clear hW hse hco hco2 hQ hQ2 cq q2 qf ql ga gb gd
      obtain ⟨W2, hW2⟩ : ∃ W2 : Wd, W2 = { W with fl := (k : Int) + 1 } := ⟨_, rfl⟩
      have HBU0 : Hid (∃ S, BusAt N we q W2 S p0 p1 p2 c0 c1 c2 ∧ ∀ k, S k → V.heap.size ≤ k) := Lib.hid (by
        subst hW2
        refine ⟨_, CopyOf.bus (W := { W with fl := (k : Int) + 1 }) ⟨hco3.ow, hco3.or, hco3.oc, hco3.ne⟩ hQ3 hqN, fun j hj => ?_⟩
        have hNe := HNV.out
        rcases hj with rfl | ⟨a, e, rfl⟩ | ⟨a, e, rfl⟩ | ⟨a, e, rfl⟩
        · exact HQV.out
        · have := (hco3.ow.place encH a e).1; omega
        · have := (hco3.or.place encH a e).1; omega
        · have := (hco3.oc.place encL a e).1; omega)
      have HCS : Hid (W2.cs.length = 0) := Lib.hid (by subst hW2; exact HSM.out.cs)
      have HFL : Hid (W2.fl = (k : Int) + 1) := Lib.hid (by subst hW2; rfl)
      have HW2 : Hid W2.Ok := Lib.hid (by subst hW2; exact ⟨HWO.out.ws, HWO.out.rs⟩)
      clear hco3 hQ3 hW2
      have HBK3 := Lib.hid (HBK.out.grew ge)
      go_upto_region 10 with fail
      refine wp_region_list ?_
      refine wpList_runs rfl (some 25) rfl (rn_fld_39_0 (ev rfl) ?_)
      simp only [List.getElem_toArray, List.getElem_cons_zero, List.getElem_cons_succ, Act.put, mixA, mixL, cond_true, cond_false, List.setIfInBounds_toArray, List.set_cons_zero, List.set_cons_succ]
      refine wpList_runs rfl (some 26) rfl (runs_ldm 33 (ev rfl) (case_st HS.out HBK3.out) Tryd.underlying33 rfl (by rw [sizeS, stv_len HS.out]) ?_)
      simp only [List.getElem_toArray, List.getElem_cons_zero, List.getElem_cons_succ, Act.put, mixA, mixL, cond_true, cond_false, List.setIfInBounds_toArray, List.set_cons_zero, List.set_cons_succ]
      refine wpList_runs rfl (some 27) rfl (runs_c1 en_ownz (ev rfl) ((own_any s HS.out _).mono ?_))
      rintro e wo ⟨rfl, go⟩
      refine ⟨_, rfl, ?_⟩
      simp only [List.getElem_toArray, List.getElem_cons_zero, List.getElem_cons_succ, Act.put, mixA, mixL, cond_true, cond_false, List.setIfInBounds_toArray, List.set_cons_zero, List.set_cons_succ]
      refine alloc_cpu rfl rfl fun wp5 hC5 g5 => ?_
      simp only [List.getElem_toArray, List.getElem_cons_zero, List.getElem_cons_succ, Act.put, mixA, mixL, cond_true, cond_false, List.setIfInBounds_toArray, List.set_cons_zero, List.set_cons_succ]
      refine store_st sizeC rfl (.tmp 7) (.tmp 27) rfl wo.heap.size rfl s zst HS.out zst_ok rfl hC5 fun wf hC6 c6 => ?_
      simp only [List.getElem_toArray, List.getElem_cons_zero, List.getElem_cons_succ, Act.put, mixA, mixL, cond_true, cond_false, List.setIfInBounds_toArray, List.set_cons_zero, List.set_cons_succ]
      have g6 : Grew we wf := go.trans (grew_lift g5 c6 fun k hk => by have e : k = wo.heap.size := hk; omega)
      have hCL := go.sz
      have HC := Lib.hid hC6
      generalize wo.heap.size = C at HC hCL hC5 hC6 c6 ⊢
      clear go hC5 g5 hC6 c6
      have gf := ge.trans g6
      obtain ⟨S, hbu0, hS⟩ := HBU0.out
      have HBU : Hid (Bus N wf q W2 S) := Lib.hid ⟨_, _, _, _, _, _, hbu0.grew g6⟩
      have HSS := Lib.hid hS
      have HIM2 := Lib.hid (HIM.out.grew gf)
      have HEN2 := Lib.hid (HEN.out.grew gf)
      have HNN : Hid (N ≤ wf.heap.size) := Lib.hid (by have := HNV.out; have := gf.sz; omega)
      have HNC : Hid (N ≤ C) := Lib.hid (by have := HNV.out; have := ge.sz; omega)
      have HGF := Lib.hid gf
      have HGE := Lib.hid ge
      clear hbu0 hS HBU0 g6 gf ge hCL
      go_upto_region 12 with (go_at_call 14; (with_reducible refine (step_any I s W2 N C X q _ _ HC.out HBU.out HIM2.out HIO.out HEN2.out HS.out (by rw [HCS.out]; omega) HNN.out HNC.out HW2.out).mono ?_); rintro e w8 ⟨rfl, h8⟩; have HP8 := Lib.hid h8; clear h8)
      obtain ⟨hC8, S8, ⟨wp8, rp8, cp8, wc8, rc8, cc8, hb8⟩, m8⟩ := HP8.out
      have HR8 : Hid (Grew V w8) := Lib.hid (grew_lift HGF.out m8.chg fun k hk => by
        rcases hk with e | e
        · have := HNC.out; have := HNV.out; have e2 : k = C := e; omega
        · exact HSS.out k e)
      have hK8 := HBK.out.grew HR8.out
      have q3 := hb8.rcd.cell 3
      simp only [List.getElem?_cons_zero, List.getElem?_cons_succ] at q3
      have hsf := step_fail I s W2 HCS.out (by rw [HFL.out]; omega)
      have hsb := step_back I s W2
      rw [HFL.out] at hsf
      clear HP8 m8 hb8
      generalize (step I s W2).2.2.cs.length = L at q3 hsf
      generalize (step I s W2).2.1 = o at hsf hsb ⊢
      have hL : ¬ (2 : Int) < (L : Int) := by omega
      have hLe := hsf.2
      clear hsf
      by_cases h4 : o = 4
      · subst h4
        rw [hsb (.inl rfl)] at hC8
        clear hsb
        have hL2 : ((L : Int) == (k : Int) + 1) = true := hLe
        clear hLe
        go_upto_region 14 with fail
        refine wp_region_list ?_
        refine wpList_runs rfl (some 44) rfl (runs_mv (ev rfl) ?_)
        simp only [List.getElem_toArray, List.getElem_cons_zero, List.getElem_cons_succ, Act.put, mixA, mixL, cond_true, cond_false, List.setIfInBounds_toArray, List.set_cons_zero, List.set_cons_succ]
        refine wpList_runs rfl (some 45) rfl (runs_to (v := .bool ((4) == (4))) (u := .bool (true)) (rn_eql_3 (ev rfl) rfl ⟨rfl, rfl⟩) (congrArg Value.bool (by decide)) ?_)
        simp only [List.getElem_toArray, List.getElem_cons_zero, List.getElem_cons_succ, Act.put, mixA, mixL, cond_true, cond_false, List.setIfInBounds_toArray, List.set_cons_zero, List.set_cons_succ]
        refine wpList_runs rfl (some 46) rfl (runs_mv (ev rfl) ?_)
        simp only [List.getElem_toArray, List.getElem_cons_zero, List.getElem_cons_succ, Act.put, mixA, mixL, cond_true, cond_false, List.setIfInBounds_toArray, List.set_cons_zero, List.set_cons_succ]
        refine wpList_skip rfl ?_
        refine wpList_skip rfl ?_
        refine wpList_runs rfl (some 49) rfl (runs_orT (ev rfl) ?_)
        simp only [List.getElem_toArray, List.getElem_cons_zero, List.getElem_cons_succ, Act.put, mixA, mixL, cond_true, cond_false, List.setIfInBounds_toArray, List.set_cons_zero, List.set_cons_succ]
        refine wpList_runs rfl (some 50) rfl (runs_mv (ev rfl) ?_)
        simp only [List.getElem_toArray, List.getElem_cons_zero, List.getElem_cons_succ, Act.put, mixA, mixL, cond_true, cond_false, List.setIfInBounds_toArray, List.set_cons_zero, List.set_cons_succ]
        refine wpList_taken rfl (some 51) rfl (runs_ldm 43 (ev rfl) hC8.range Tryd.underlying43 rfl (by rw [sizeC, stv_len HS.out]) ?_)
        simp only [List.getElem_toArray, List.getElem_cons_zero, List.getElem_cons_succ, Act.put, mixA, mixL, cond_true, cond_false, List.setIfInBounds_toArray, List.set_cons_zero, List.set_cons_succ]
        refine wpList_taken rfl (some 52) rfl (rn_fld_39_0 (ev rfl) ?_)
        simp only [List.getElem_toArray, List.getElem_cons_zero, List.getElem_cons_succ, Act.put, mixA, mixL, cond_true, cond_false, List.setIfInBounds_toArray, List.set_cons_zero, List.set_cons_succ]
        refine wpList_taken rfl (some 53) rfl (runs_ldm 33 (ev rfl) (case_st HS.out hK8) Tryd.underlying33 rfl (by rw [sizeS, stv_len HS.out]) ?_)
        simp only [List.getElem_toArray, List.getElem_cons_zero, List.getElem_cons_succ, Act.put, mixA, mixL, cond_true, cond_false, List.setIfInBounds_toArray, List.set_cons_zero, List.set_cons_succ]
        refine wpList_taken rfl (some 54) rfl (runs_c2 en_samez (ev rfl) (ev rfl) ((same_self s HS.out _).mono ?_))
        rintro e w9 ⟨rfl, g9⟩
        refine ⟨_, rfl, ?_⟩
        have HR9 := Lib.hid (HR8.out.trans g9)
        clear g9
        simp only [List.getElem_toArray, List.getElem_cons_zero, List.getElem_cons_succ, Act.put, mixA, mixL, cond_true, cond_false, List.setIfInBounds_toArray, List.set_cons_zero, List.set_cons_succ]
        refine wpList_taken rfl (some 55) rfl (runs_nt (ev rfl) ?_)
        simp only [List.getElem_toArray, List.getElem_cons_zero, List.getElem_cons_succ, Act.put, mixA, mixL, cond_true, cond_false, List.setIfInBounds_toArray, List.set_cons_zero, List.set_cons_succ]
        refine wpList_runs rfl (some 56) rfl (runs_an (ev rfl) (fun hb => ev (rfl)) ?_)
        simp only [List.getElem_toArray, List.getElem_cons_zero, List.getElem_cons_succ, Act.put, mixA, mixL, cond_true, cond_false, List.setIfInBounds_toArray, List.set_cons_zero, List.set_cons_succ]
        go_wp2
        go_roundg (2 - (k + 1))
        case measure => have := HLT.out; omega
        case rel => exact ⟨k + 1, by go_num, HLT.out, rfl, HR9⟩
      · by_cases h5 : o = 5
        · subst h5
          rw [hsb (.inr rfl)] at hC8
          clear hsb
          have hL2 : ((L : Int) == (k : Int) + 1) = false := hLe
          clear hLe
          go_upto_region 14 with fail
          refine wp_region_list ?_
          refine wpList_runs rfl (some 44) rfl (runs_mv (ev rfl) ?_)
          simp only [List.getElem_toArray, List.getElem_cons_zero, List.getElem_cons_succ, Act.put, mixA, mixL, cond_true, cond_false, List.setIfInBounds_toArray, List.set_cons_zero, List.set_cons_succ]
          refine wpList_runs rfl (some 45) rfl (runs_to (v := .bool ((5) == (4))) (u := .bool (false)) (rn_eql_3 (ev rfl) rfl ⟨rfl, rfl⟩) (congrArg Value.bool (by decide)) ?_)
          simp only [List.getElem_toArray, List.getElem_cons_zero, List.getElem_cons_succ, Act.put, mixA, mixL, cond_true, cond_false, List.setIfInBounds_toArray, List.set_cons_zero, List.set_cons_succ]
          refine wpList_runs rfl (some 46) rfl (runs_mv (ev rfl) ?_)
          simp only [List.getElem_toArray, List.getElem_cons_zero, List.getElem_cons_succ, Act.put, mixA, mixL, cond_true, cond_false, List.setIfInBounds_toArray, List.set_cons_zero, List.set_cons_succ]
          refine wpList_taken rfl (some 47) rfl (runs_mv (ev rfl) ?_)
          simp only [List.getElem_toArray, List.getElem_cons_zero, List.getElem_cons_succ, Act.put, mixA, mixL, cond_true, cond_false, List.setIfInBounds_toArray, List.set_cons_zero, List.set_cons_succ]
          refine wpList_taken rfl (some 48) rfl (runs_to (v := .bool ((5) == (5))) (u := .bool (true)) (rn_eql_3 (ev rfl) rfl ⟨rfl, rfl⟩) (congrArg Value.bool (by decide)) ?_)
          simp only [List.getElem_toArray, List.getElem_cons_zero, List.getElem_cons_succ, Act.put, mixA, mixL, cond_true, cond_false, List.setIfInBounds_toArray, List.set_cons_zero, List.set_cons_succ]
          refine wpList_runs rfl (some 49) rfl (runs_or2 (ev rfl) (fun hb => ev (rfl)) ?_)
          simp only [List.getElem_toArray, List.getElem_cons_zero, List.getElem_cons_succ, Act.put, mixA, mixL, cond_true, cond_false, List.setIfInBounds_toArray, List.set_cons_zero, List.set_cons_succ]
          refine wpList_runs rfl (some 50) rfl (runs_mv (ev rfl) ?_)
          simp only [List.getElem_toArray, List.getElem_cons_zero, List.getElem_cons_succ, Act.put, mixA, mixL, cond_true, cond_false, List.setIfInBounds_toArray, List.set_cons_zero, List.set_cons_succ]
          refine wpList_taken rfl (some 51) rfl (runs_ldm 43 (ev rfl) hC8.range Tryd.underlying43 rfl (by rw [sizeC, stv_len HS.out]) ?_)
          simp only [List.getElem_toArray, List.getElem_cons_zero, List.getElem_cons_succ, Act.put, mixA, mixL, cond_true, cond_false, List.setIfInBounds_toArray, List.set_cons_zero, List.set_cons_succ]
          refine wpList_taken rfl (some 52) rfl (rn_fld_39_0 (ev rfl) ?_)
          simp only [List.getElem_toArray, List.getElem_cons_zero, List.getElem_cons_succ, Act.put, mixA, mixL, cond_true, cond_false, List.setIfInBounds_toArray, List.set_cons_zero, List.set_cons_succ]
          refine wpList_taken rfl (some 53) rfl (runs_ldm 33 (ev rfl) (case_st HS.out hK8) Tryd.underlying33 rfl (by rw [sizeS, stv_len HS.out]) ?_)
          simp only [List.getElem_toArray, List.getElem_cons_zero, List.getElem_cons_succ, Act.put, mixA, mixL, cond_true, cond_false, List.setIfInBounds_toArray, List.set_cons_zero, List.set_cons_succ]
          refine wpList_taken rfl (some 54) rfl (runs_c2 en_samez (ev rfl) (ev rfl) ((same_self s HS.out _).mono ?_))
          rintro e w9 ⟨rfl, g9⟩
          refine ⟨_, rfl, ?_⟩
          have HR9 := Lib.hid (HR8.out.trans g9)
          clear g9
          simp only [List.getElem_toArray, List.getElem_cons_zero, List.getElem_cons_succ, Act.put, mixA, mixL, cond_true, cond_false, List.setIfInBounds_toArray, List.set_cons_zero, List.set_cons_succ]
          refine wpList_taken rfl (some 55) rfl (runs_nt (ev rfl) ?_)
          simp only [List.getElem_toArray, List.getElem_cons_zero, List.getElem_cons_succ, Act.put, mixA, mixL, cond_true, cond_false, List.setIfInBounds_toArray, List.set_cons_zero, List.set_cons_succ]
          refine wpList_runs rfl (some 56) rfl (runs_an (ev rfl) (fun hb => ev (rfl)) ?_)
          simp only [List.getElem_toArray, List.getElem_cons_zero, List.getElem_cons_succ, Act.put, mixA, mixL, cond_true, cond_false, List.setIfInBounds_toArray, List.set_cons_zero, List.set_cons_succ]
          go_wp2
          go_roundg (2 - (k + 1))
          case measure => have := HLT.out; omega
          case rel => exact ⟨k + 1, by go_num, HLT.out, rfl, HR9⟩
        · have b4 : (o == 4) = false := by simpa using h4
          have b5 : (o == 5) = false := by simpa using h5
          have hL2 : ((L : Int) == (k : Int) + 1) = false := by rw [hLe]; exact b4
          clear hLe h4 h5 hsb hC8 hK8
          go_wp2
          go_roundg (2 - (k + 1))
          case measure => have := HLT.out; omega
          case rel => exact ⟨k + 1, by go_num, HLT.out, rfl, HR8⟩
    · obtain rfl : k = 2 := by omega
      go_wp2
      go_ret
      exact ⟨rfl, HG.out.trans HR.out⟩
end Go.Proofs.YtbhglpiiabpdjaaDoor
