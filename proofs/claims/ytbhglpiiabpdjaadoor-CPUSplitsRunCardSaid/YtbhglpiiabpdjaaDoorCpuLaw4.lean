/-
  THE STATEMENT SplitsRun OF LAYER 12 (cpu), WALKED.
-/
import Derived.Test.YtbhglpiiabpdjaaDoorCpuTwo
import Derived.Deep.RegionHeld
namespace Go.Proofs.YtbhglpiiabpdjaaDoor
open Go Go.RowKit Go.IntWalk Go.WideShapes
set_option linter.unusedSimpArgs false
set_option linter.unusedVariables false
set_option maxRecDepth 8000
section
variable {dst : Option Tmp} {ty : TypeId} {pos : String} {after : Array Edge} {g : Option (Nat × Bool)} {a : Act} {w : World} {T : Value → World → Prop}
theorem rn_fld_39_0 {x : Operand} {S o : Nat} (hx : a.eval x = .pointer (some ⟨S, o, none⟩)) (h : T (.pointer (some ⟨S, o, none⟩)) w) : Runs Tryd.prog ⟨dst, .fieldAddr 39 x 0, ty, pos, after, g⟩ a w T := by
  refine Runs.value (v := .pointer (some ⟨S, o, none⟩)) (w' := w) ?_ h
  simp only [execOp, hx]
  go_simp
theorem rn_fld_39_1 {x : Operand} {S o : Nat} (hx : a.eval x = .pointer (some ⟨S, o, none⟩)) (h : T (.pointer (some ⟨S, o + 73, none⟩)) w) : Runs Tryd.prog ⟨dst, .fieldAddr 39 x 1, ty, pos, after, g⟩ a w T := by
  refine Runs.value (v := .pointer (some ⟨S, o + 73, none⟩)) (w' := w) ?_ h
  simp only [execOp, hx]
  go_simp
theorem rn_add_3 {o1 o2 : Operand} {b c : Int} (hx : a.eval o1 = .int .i64 b) (hy : a.eval o2 = .int .i64 c) (hb : -9223372036854775808 ≤ b + c ∧ b + c ≤ 9223372036854775807) (h : T (.int .i64 (b + c)) w) : Runs Tryd.prog ⟨dst, .binOp .add 3 o1 o2 3, ty, pos, after, g⟩ a w T := by
  refine Runs.value (v := .int .i64 (b + c)) (w' := w) ?_ h
  have hw : IntKind.i64.wrap (b + c) = b + c := IntWalk.i64_in _ hb
  simp only [execOp, hx, hy]
  go_simp
end
theorem runN_cnt (I : Im) : ∀ (L : Nat) (s : St) (W : Wd), (runN I L s W).2.2.1 ≤ L
  | 0, _, _ => Nat.le_refl 0
  | L + 1, s, W => by
    rw [runN_succ]
    split
    · exact Nat.succ_le_succ (runN_cnt I L _ _)
    · exact Nat.succ_le_succ (Nat.zero_le L)
set_option maxHeartbeats 8000000 in
theorem splits_law (I : Im) (r : Rest) (gp ap kp hp : Option Addr) (gc ac kc hc : Nat) (s : St) (W : Wd) (wp rp cp : Option Addr) (wc rc cc : Nat) (ta tb : Int) (hta : 0 ≤ ta ∧ ta ≤ 255) (htb : 0 ≤ tb ∧ tb ≤ 255) (w : World) (hI : ImRows w.heap.size w I gp ap kp gc ac kc) (hIo : I.Ok) (hs : s.Ok) (hWo : W.Ok) (hw : Rw 1 h16 w wp wc W.ws) (hr : Rw 1 h16 w rp rc W.rs) (hc' : Rw 3 clv w cp cc W.cs) (he : EnvN w.heap.size w) :
    Calls Tryd.prog 5 #[.agg #[r.v0, .slice gp I.gs.length gc, .int .i64 I.sens, .int .i64 I.outs, .slice hp I.chans hc, r.v5, .slice ap I.addr.length ac, r.v7, r.v8, r.v9, r.v10, .slice kp I.code.length kc], .agg (stv s ++ ([.slice wp W.ws.length wc, .slice rp W.rs.length rc, .int .i64 W.fl, .slice cp W.cs.length cc] : List Value)).toArray, .agg #[.int .u8 ta, .int .u8 tb]] w fun e w' => e = .returned (.bool true) ∧ Grew w w' := by
  obtain ⟨L1, rfl⟩ : ∃ L : Nat, ta = L := ⟨ta.toNat, by omega⟩
  obtain ⟨L2, rfl⟩ : ∃ L : Nat, tb = L := ⟨tb.toNat, by omega⟩
  have bL1 := hta.2
  have bL2 := htb.2
  clear hta htb
  have HS := Lib.hid hs
  have HIO := Lib.hid hIo
  have HWO := Lib.hid hWo
  have HRW := Lib.hid hw
  have HRR := Lib.hid hr
  have HRC := Lib.hid hc'
  have HIR := Lib.hid hI
  have HE := Lib.hid he
  obtain ⟨M, hM⟩ : ∃ M, M = w.heap.size := ⟨_, rfl⟩
  rw [← hM] at HE HIR
  have HM := Lib.hid (Nat.le_of_eq hM)
  clear hs hIo hWo hw hr hc' hI he hM
  go_enter Tryd.func5, Tryd.ntmps5
  go_upto_region 0 with fail
  refine wp_region_list ?_
  refine wpList_box_whole rfl _ _ rfl [r.v0, .slice gp I.gs.length gc, .int .i64 I.sens, .int .i64 I.outs, .slice hp I.chans hc, r.v5, .slice ap I.addr.length ac, r.v7, r.v8, r.v9, r.v10, .slice kp I.code.length kc] rfl fun w1 bx g1 => ?_
  simp only [List.getElem_toArray, List.getElem_cons_zero, List.getElem_cons_succ, Act.put, mixA, mixL, cond_true, cond_false, List.setIfInBounds_toArray, List.set_cons_zero, List.set_cons_succ]
  refine wpList_box_whole rfl _ _ rfl (stv s ++ ([.slice wp W.ws.length wc, .slice rp W.rs.length rc, .int .i64 W.fl, .slice cp W.cs.length cc] : List Value)) rfl fun w2 bk g2 => ?_
  simp only [List.getElem_toArray, List.getElem_cons_zero, List.getElem_cons_succ, Act.put, mixA, mixL, cond_true, cond_false, List.setIfInBounds_toArray, List.set_cons_zero, List.set_cons_succ]
  have HG := Lib.hid (g1.trans g2)
  have HBX := Lib.hid (bx.grew g2)
  have HBK := Lib.hid bk
  generalize w1.heap.size = K at HBK bk ⊢
  generalize w.heap.size = X at HBX ⊢
  clear bx bk g1 g2
  refine wpList_box_whole rfl _ _ rfl [.int .u8 (L1 : Int), .int .u8 (L2 : Int)] rfl fun w3 bt g3 => ?_
  simp only [List.getElem_toArray, List.getElem_cons_zero, List.getElem_cons_succ, Act.put, mixA, mixL, cond_true, cond_false, List.setIfInBounds_toArray, List.set_cons_zero, List.set_cons_succ]
  have HBT := Lib.hid bt
  replace HBX := Lib.hid (HBX.out.grew g3)
  replace HBK := Lib.hid (HBK.out.grew g3)
  replace HG := Lib.hid (HG.out.trans g3)
  generalize w2.heap.size = U at HBT bt ⊢
  clear bt g3
  have HEV := Lib.hid (HE.out.grew HG.out)
  go_upto_region 3 with (go_at_call 10; (with_reducible refine (awake_any M _ HEV.out (Nat.le_trans HM.out HG.out.sz)).mono ?_); rintro e w3 ⟨rfl, g3⟩; replace HBX := Lib.hid (HBX.out.grew g3); replace HBK := Lib.hid (HBK.out.grew g3); replace HBT := Lib.hid (HBT.out.grew g3); replace HG := Lib.hid (HG.out.trans g3); clear g3 HEV)
  refine wp_region_list ?_
  refine wpList_runs rfl (some 19) rfl (runs_ldm 28 (ev rfl) (HBX.out.range) Tryd.underlying28 rfl (by rw [sizeI]; rfl) ?_)
  simp only [List.getElem_toArray, List.getElem_cons_zero, List.getElem_cons_succ, Act.put, mixA, mixL, cond_true, cond_false, List.setIfInBounds_toArray, List.set_cons_zero, List.set_cons_succ]
  refine wpList_runs rfl (some 20) rfl (rn_fld_39_1 (ev rfl) ?_)
  simp only [List.getElem_toArray, List.getElem_cons_zero, List.getElem_cons_succ, Act.put, mixA, mixL, cond_true, cond_false, List.setIfInBounds_toArray, List.set_cons_zero, List.set_cons_succ]
  refine wpList_runs rfl (some 21) rfl (runs_ldm 37 (ev rfl) (case_wd HS.out HBK.out) Tryd.underlying37 rfl (by rw [sizeW]; rfl) ?_)
  simp only [List.getElem_toArray, List.getElem_cons_zero, List.getElem_cons_succ, Act.put, mixA, mixL, cond_true, cond_false, List.setIfInBounds_toArray, List.set_cons_zero, List.set_cons_succ]
  refine wpList_runs rfl (some 22) rfl (runs_c2 en_sml (ev rfl) (ev rfl) ((small_any I r gp ap kp hp gc ac kc hc W wp rp cp wc rc cc _).mono ?_))
  rintro e V ⟨b, rfl, hsm, gV⟩
  refine ⟨_, rfl, ?_⟩
  simp only [List.getElem_toArray, List.getElem_cons_zero, List.getElem_cons_succ, Act.put, mixA, mixL, cond_true, cond_false, List.setIfInBounds_toArray, List.set_cons_zero, List.set_cons_succ]
  refine wpList_runs rfl (some 23) rfl (runs_nt (ev rfl) ?_)
  simp only [List.getElem_toArray, List.getElem_cons_zero, List.getElem_cons_succ, Act.put, mixA, mixL, cond_true, cond_false, List.setIfInBounds_toArray, List.set_cons_zero, List.set_cons_succ]
  replace HBX := Lib.hid (HBX.out.grew gV)
  replace HBK := Lib.hid (HBK.out.grew gV)
  replace HBT := Lib.hid (HBT.out.grew gV)
  replace HG := Lib.hid (HG.out.trans gV)
  clear gV
  cases b
  case false =>
    go_wp2
    go_ret
    exact ⟨rfl, HG.out⟩
  have HSM := Lib.hid (hsm rfl)
  clear hsm
  obtain ⟨N, hN⟩ : ∃ N, N = V.heap.size := ⟨_, rfl⟩
  have HN : Hid (M ≤ N) := Lib.hid (by have := HM.out; have := HG.out.sz; omega)
  have HNV := Lib.hid hN
  have HEN := Lib.hid ((HE.out.grew HG.out).up HN.out)
  have HIM : Hid (ImgAt N V X I) := Lib.hid ⟨r, gp, ap, kp, hp, gc, ac, kc, hc, HBX.out, (HIR.out.grew HG.out).up HN.out⟩
  have HSW : Hid W.Small := Lib.hid ⟨by have := HSM.out.ws; omega, by have := HSM.out.rs; omega, by have := HSM.out.cs; omega⟩
  clear hN HE HIR HM HN
  go_upto_region 5 with fail
  refine cut_code (fun a0 a2 w2 => ∃ q1 q2 v1 v2, a2 = ((((((((a0.put (some 24) (.pointer (some ⟨K, 73, none⟩))).put (some 25) (.agg #[.slice wp W.ws.length wc, .slice rp W.rs.length rc, .int .i64 W.fl, .slice cp W.cs.length cc])).put (some 26) (v1)).put (some 27) (.pointer (some ⟨K, 73, none⟩))).put (some 28) (.agg #[.slice wp W.ws.length wc, .slice rp W.rs.length rc, .int .i64 W.fl, .slice cp W.cs.length cc])).put (some 29) (v2)).put (some 7) (.pointer (some ⟨q1, 0, none⟩))).put (some 8) (.pointer (some ⟨q2, 0, none⟩))) ∧ Two V.heap.size w2 W q1 q2 ∧ V.heap.size ≤ q1 ∧ V.heap.size ≤ q2 ∧ Grew V w2) ?_ ?_
  · have hgd : Grew V V.drew := (Grew.refl _).drw
    have HGW := HG.out.trans hgd
    have hK := HBK.out.grew hgd
    have hg9 := Grew.refl V.drew
    obtain ⟨B0, hB0⟩ : ∃ B0, B0 = V.heap.size := ⟨_, rfl⟩
    have hBd : B0 = V.drew.heap.size := hB0
    have yld : ∀ (W9 : World), Blk K (stv s ++ ([.slice wp W.ws.length wc, .slice rp W.rs.length rc, .int .i64 W.fl, .slice cp W.cs.length cc] : List Value)) 39 W9 → W9.rangeAt K 73 [.slice wp W.ws.length wc, .slice rp W.rs.length rc, .int .i64 W.fl, .slice cp W.cs.length cc] := fun W9 h => case_wd HS.out h
    refine wp_region_held_drew (S := fun W9 => Blk K (stv s ++ ([.slice wp W.ws.length wc, .slice rp W.rs.length rc, .int .i64 W.fl, .slice cp W.cs.length cc] : List Value)) 39 W9) (by kernel_rfl) hK fun _ => ?_
    refine wpAnyH_take (i := 0) (v := .pointer (some ⟨K, 73, none⟩)) rfl (by kernel_rfl) (by kernel_rfl) (by kernel_rfl) (fun _ _ _ h => nomatch h.1) (Or.inl ⟨by rfl, fun W9 _ => by simp only [execOp]; go_simp⟩) hK ?_
    simp only [List.getElem_toArray, List.getElem_cons_zero, List.getElem_cons_succ, Act.put, mixA, mixL, cond_true, cond_false, List.setIfInBounds_toArray, List.set_cons_zero, List.set_cons_succ]
    refine wpAnyH_take (i := 1) (v := .agg #[.slice wp W.ws.length wc, .slice rp W.rs.length rc, .int .i64 W.fl, .slice cp W.cs.length cc]) rfl (by kernel_rfl) (by kernel_rfl) (by kernel_rfl) (fun _ _ _ h => nomatch h.1) (yieldsIf_load_mid (by rfl) 37 (.tmp 24) rfl K 73 rfl [.slice wp W.ws.length wc, .slice rp W.rs.length rc, .int .i64 W.fl, .slice cp W.cs.length cc] _ yld Tryd.underlying37 rfl (by rw [sizeW]; rfl)) hK ?_
    simp only [List.getElem_toArray, List.getElem_cons_zero, List.getElem_cons_succ, Act.put, mixA, mixL, cond_true, cond_false, List.setIfInBounds_toArray, List.set_cons_zero, List.set_cons_succ]
    refine wpAnyH_take (i := 3) (v := .pointer (some ⟨K, 73, none⟩)) rfl (by kernel_rfl) (by kernel_rfl) (by kernel_rfl) (fun _ _ _ h => nomatch h.1) (Or.inl ⟨by rfl, fun W9 _ => by simp only [execOp]; go_simp⟩) hK ?_
    simp only [List.getElem_toArray, List.getElem_cons_zero, List.getElem_cons_succ, Act.put, mixA, mixL, cond_true, cond_false, List.setIfInBounds_toArray, List.set_cons_zero, List.set_cons_succ]
    refine wpAnyH_take (i := 4) (v := .agg #[.slice wp W.ws.length wc, .slice rp W.rs.length rc, .int .i64 W.fl, .slice cp W.cs.length cc]) rfl (by kernel_rfl) (by kernel_rfl) (by kernel_rfl) (fun _ _ _ h => nomatch h.1) (yieldsIf_load_mid (by rfl) 37 (.tmp 27) rfl K 73 rfl [.slice wp W.ws.length wc, .slice rp W.rs.length rc, .int .i64 W.fl, .slice cp W.cs.length cc] _ yld Tryd.underlying37 rfl (by rw [sizeW]; rfl)) hK ?_
    simp only [List.getElem_toArray, List.getElem_cons_zero, List.getElem_cons_succ, Act.put, mixA, mixL, cond_true, cond_false, List.setIfInBounds_toArray, List.set_cons_zero, List.set_cons_succ]
    refine wpAnyH_go [2, 6, 7] (by kernel_rfl) (by simp) ⟨⟨_, rfl, rfl, ?_⟩, ⟨_, rfl, rfl, ?_⟩, ⟨_, rfl, rfl, ?_⟩, trivial⟩
    · refine runs_c1 en_cpy (ev rfl) ((copy_any W wp rp cp wc rc cc _ (HRW.out.kept (HGW.trans hg9)) (HRR.out.kept (HGW.trans hg9)) (HRC.out.kept (HGW.trans hg9)) HSW.out).mono ?_)
      rintro e x1 ⟨p0, p1, p2, pc0, pc1, pc2, rfl, hco1, gx⟩
      have hK2 := hK.grew gx
      have hg2 := hg9.trans gx
      replace hco1 := hco1.down (show V.drew.heap.size ≤ _ from hg9.sz)
      refine ⟨_, rfl, hK2, ?_⟩
      clear hK hg9 gx
      have hK := hK2
      have hg9 := hg2
      clear hK2 hg2
      simp only [List.getElem_toArray, List.getElem_cons_zero, List.getElem_cons_succ, Act.put, mixA, mixL, cond_true, cond_false, List.setIfInBounds_toArray, List.set_cons_zero, List.set_cons_succ]
      refine wpAnyH_go [5, 6, 7] (by kernel_rfl) (by simp) ⟨⟨_, rfl, rfl, ?_⟩, ⟨_, rfl, rfl, ?_⟩, ⟨_, rfl, rfl, ?_⟩, trivial⟩
      · refine runs_c1 en_cpy (ev rfl) ((copy_any W wp rp cp wc rc cc _ (HRW.out.kept (HGW.trans hg9)) (HRR.out.kept (HGW.trans hg9)) (HRC.out.kept (HGW.trans hg9)) HSW.out).mono ?_)
        rintro e x2 ⟨r0, r1, r2, rc0, rc1, rc2, rfl, hco2, gx⟩
        have hK2 := hK.grew gx
        have hg2 := hg9.trans gx
        have hco1x := hco1.grew gx
        have hdd : ∀ a b, (p0 = some a ∨ p1 = some a ∨ p2 = some a) → (r0 = some b ∨ r1 = some b ∨ r2 = some b) → a.block ≠ b.block := fun a b ha hb => by have h1 := (hco1.lt a ha).2; have h2 := (hco2.lt b hb).1; omega
        replace hco1 := hco1x
        clear hco1x
        replace hco2 := hco2.down (show V.drew.heap.size ≤ _ from hg9.sz)
        refine ⟨_, rfl, hK2, ?_⟩
        clear hK hg9 gx
        have hK := hK2
        have hg9 := hg2
        clear hK2 hg2
        simp only [List.getElem_toArray, List.getElem_cons_zero, List.getElem_cons_succ, Act.put, mixA, mixL, cond_true, cond_false, List.setIfInBounds_toArray, List.set_cons_zero, List.set_cons_succ]
        refine wpAnyH_go [6, 7] (by kernel_rfl) (by simp) ⟨⟨_, rfl, rfl, ?_⟩, ⟨_, rfl, rfl, ?_⟩, trivial⟩
        · refine runs_alw 37 [.slice none 0 0, .slice none 0 0, .int .i64 0, .slice none 0 0] zeroW fun x3 hb1 gx => ?_
          have hK2 := hK.grew gx
          have hg2 := hg9.trans gx
          have hm1 : B0 ≤ x2.heap.size := Nat.le_trans (Nat.le_of_eq hBd) hg9.sz
          replace hco1 := hco1.grew gx
          replace hco2 := hco2.grew gx
          generalize x2.heap.size = q1 at hb1 hm1 ⊢
          refine ⟨hK2, ?_⟩
          clear hK hg9 gx
          have hK := hK2
          have hg9 := hg2
          clear hK2 hg2
          simp only [List.getElem_toArray, List.getElem_cons_zero, List.getElem_cons_succ, Act.put, mixA, mixL, cond_true, cond_false, List.setIfInBounds_toArray, List.set_cons_zero, List.set_cons_succ]
          refine wpAnyH_go [7] (by kernel_rfl) (by simp) ⟨⟨_, rfl, rfl, ?_⟩, trivial⟩
          refine runs_alw 37 [.slice none 0 0, .slice none 0 0, .int .i64 0, .slice none 0 0] zeroW fun x4 hb2 gx => ?_
          have hK2 := hK.grew gx
          have hg2 := hg9.trans gx
          have hm2 : B0 ≤ x3.heap.size := Nat.le_trans (Nat.le_of_eq hBd) hg9.sz
          replace hco1 := hco1.grew gx
          replace hco2 := hco2.grew gx
          have hqq : q1 ≠ x3.heap.size := by have := hb1.lt; omega
          replace hb1 := hb1.grew gx
          generalize x3.heap.size = q2 at hb2 hm2 hqq ⊢
          refine ⟨hK2, ?_⟩
          clear hK hg9 gx
          have hK := hK2
          have hg9 := hg2
          clear hK2 hg2
          simp only [List.getElem_toArray, List.getElem_cons_zero, List.getElem_cons_succ, Act.put, mixA, mixL, cond_true, cond_false, List.setIfInBounds_toArray, List.set_cons_zero, List.set_cons_succ]
          refine wpAnyH_go [8] (by kernel_rfl) (by simp) ⟨⟨_, rfl, rfl, ?_⟩, trivial⟩
          refine runs_stw 37 (us := [.slice p0 W.ws.length pc0, .slice p1 W.rs.length pc1, .int .i64 W.fl, .slice p2 W.cs.length pc2]) (ev rfl) (ev rfl) hb1 rfl sizeW (fun v hv => by simp only [List.mem_cons, List.not_mem_nil, or_false] at hv; rcases hv with rfl | rfl | rfl | rfl <;> rfl) fun x5 hbx cx => ?_
          have hK2 := hK.chg cx (fun e => by have h1 := hK.ne hb1 (by decide); exact h1 e)
          have hg2 : Grew V.drew x5 := grew_lift hg9 cx fun k hk => by have e : k = q1 := hk; omega
          replace hco1 := hco1.chg cx hb1
          replace hco2 := hco2.chg cx hb1
          replace hb2 := hb2.chg cx (fun e => hqq e.symm)
          replace hb1 := hbx
          refine ⟨hK2, ?_⟩
          clear hK hg9 cx hbx
          have hK := hK2
          have hg9 := hg2
          clear hK2 hg2
          simp only [List.getElem_toArray, List.getElem_cons_zero, List.getElem_cons_succ, Act.put, mixA, mixL, cond_true, cond_false, List.setIfInBounds_toArray, List.set_cons_zero, List.set_cons_succ]
          refine wpAnyH_go [9] (by kernel_rfl) (by simp) ⟨⟨_, rfl, rfl, ?_⟩, trivial⟩
          refine runs_stw 37 (us := [.slice r0 W.ws.length rc0, .slice r1 W.rs.length rc1, .int .i64 W.fl, .slice r2 W.cs.length rc2]) (ev rfl) (ev rfl) hb2 rfl sizeW (fun v hv => by simp only [List.mem_cons, List.not_mem_nil, or_false] at hv; rcases hv with rfl | rfl | rfl | rfl <;> rfl) fun x6 hbx cx => ?_
          have hK2 := hK.chg cx (fun e => by have h1 := hK.ne hb2 (by decide); exact h1 e)
          have hg2 : Grew V.drew x6 := grew_lift hg9 cx fun k hk => by have e : k = q2 := hk; omega
          replace hco1 := hco1.chg cx hb2
          replace hco2 := hco2.chg cx hb2
          replace hb1 := hb1.chg cx (fun e => hqq e)
          replace hb2 := hbx
          refine ⟨hK2, ?_⟩
          clear hK hg9 cx hbx
          have hK := hK2
          have hg9 := hg2
          clear hK2 hg2
          simp only [List.getElem_toArray, List.getElem_cons_zero, List.getElem_cons_succ, Act.put, mixA, mixL, cond_true, cond_false, List.setIfInBounds_toArray, List.set_cons_zero, List.set_cons_succ]
          refine wpAnyH_done (by kernel_rfl) ?_ _
          exact ⟨rfl, q1, q2, .agg #[.slice p0 W.ws.length pc0, .slice p1 W.rs.length pc1, .int .i64 W.fl, .slice p2 W.cs.length pc2], .agg #[.slice r0 W.ws.length rc0, .slice r1 W.rs.length rc1, .int .i64 W.fl, .slice r2 W.cs.length rc2], by kernel_rfl, Two.of (hco1.down (Nat.le_of_eq (hB0.symm.trans hBd))) (hco2.down (Nat.le_of_eq (hB0.symm.trans hBd))) hdd hb1 hb2 hqq (hB0 ▸ hm1) (hB0 ▸ hm2), hB0 ▸ hm1, hB0 ▸ hm2, hgd.trans hg9⟩
        · refine runs_alw 37 [.slice none 0 0, .slice none 0 0, .int .i64 0, .slice none 0 0] zeroW fun x7 hb2 gx => ?_
          have hK2 := hK.grew gx
          have hg2 := hg9.trans gx
          have hm2 : B0 ≤ x2.heap.size := Nat.le_trans (Nat.le_of_eq hBd) hg9.sz
          replace hco1 := hco1.grew gx
          replace hco2 := hco2.grew gx
          generalize x2.heap.size = q2 at hb2 hm2 ⊢
          refine ⟨hK2, ?_⟩
          clear hK hg9 gx
          have hK := hK2
          have hg9 := hg2
          clear hK2 hg2
          simp only [List.getElem_toArray, List.getElem_cons_zero, List.getElem_cons_succ, Act.put, mixA, mixL, cond_true, cond_false, List.setIfInBounds_toArray, List.set_cons_zero, List.set_cons_succ]
          refine wpAnyH_go [6] (by kernel_rfl) (by simp) ⟨⟨_, rfl, rfl, ?_⟩, trivial⟩
          refine runs_alw 37 [.slice none 0 0, .slice none 0 0, .int .i64 0, .slice none 0 0] zeroW fun x8 hb1 gx => ?_
          have hK2 := hK.grew gx
          have hg2 := hg9.trans gx
          have hm1 : B0 ≤ x7.heap.size := Nat.le_trans (Nat.le_of_eq hBd) hg9.sz
          replace hco1 := hco1.grew gx
          replace hco2 := hco2.grew gx
          have hqq : q2 ≠ x7.heap.size := by have := hb2.lt; omega
          replace hb2 := hb2.grew gx
          have hqq := hqq.symm
          generalize x7.heap.size = q1 at hb1 hm1 hqq ⊢
          refine ⟨hK2, ?_⟩
          clear hK hg9 gx
          have hK := hK2
          have hg9 := hg2
          clear hK2 hg2
          simp only [List.getElem_toArray, List.getElem_cons_zero, List.getElem_cons_succ, Act.put, mixA, mixL, cond_true, cond_false, List.setIfInBounds_toArray, List.set_cons_zero, List.set_cons_succ]
          refine wpAnyH_go [8] (by kernel_rfl) (by simp) ⟨⟨_, rfl, rfl, ?_⟩, trivial⟩
          refine runs_stw 37 (us := [.slice p0 W.ws.length pc0, .slice p1 W.rs.length pc1, .int .i64 W.fl, .slice p2 W.cs.length pc2]) (ev rfl) (ev rfl) hb1 rfl sizeW (fun v hv => by simp only [List.mem_cons, List.not_mem_nil, or_false] at hv; rcases hv with rfl | rfl | rfl | rfl <;> rfl) fun x9 hbx cx => ?_
          have hK2 := hK.chg cx (fun e => by have h1 := hK.ne hb1 (by decide); exact h1 e)
          have hg2 : Grew V.drew x9 := grew_lift hg9 cx fun k hk => by have e : k = q1 := hk; omega
          replace hco1 := hco1.chg cx hb1
          replace hco2 := hco2.chg cx hb1
          replace hb2 := hb2.chg cx (fun e => hqq e.symm)
          replace hb1 := hbx
          refine ⟨hK2, ?_⟩
          clear hK hg9 cx hbx
          have hK := hK2
          have hg9 := hg2
          clear hK2 hg2
          simp only [List.getElem_toArray, List.getElem_cons_zero, List.getElem_cons_succ, Act.put, mixA, mixL, cond_true, cond_false, List.setIfInBounds_toArray, List.set_cons_zero, List.set_cons_succ]
          refine wpAnyH_go [9] (by kernel_rfl) (by simp) ⟨⟨_, rfl, rfl, ?_⟩, trivial⟩
          refine runs_stw 37 (us := [.slice r0 W.ws.length rc0, .slice r1 W.rs.length rc1, .int .i64 W.fl, .slice r2 W.cs.length rc2]) (ev rfl) (ev rfl) hb2 rfl sizeW (fun v hv => by simp only [List.mem_cons, List.not_mem_nil, or_false] at hv; rcases hv with rfl | rfl | rfl | rfl <;> rfl) fun x10 hbx cx => ?_
          have hK2 := hK.chg cx (fun e => by have h1 := hK.ne hb2 (by decide); exact h1 e)
          have hg2 : Grew V.drew x10 := grew_lift hg9 cx fun k hk => by have e : k = q2 := hk; omega
          replace hco1 := hco1.chg cx hb2
          replace hco2 := hco2.chg cx hb2
          replace hb1 := hb1.chg cx (fun e => hqq e)
          replace hb2 := hbx
          refine ⟨hK2, ?_⟩
          clear hK hg9 cx hbx
          have hK := hK2
          have hg9 := hg2
          clear hK2 hg2
          simp only [List.getElem_toArray, List.getElem_cons_zero, List.getElem_cons_succ, Act.put, mixA, mixL, cond_true, cond_false, List.setIfInBounds_toArray, List.set_cons_zero, List.set_cons_succ]
          refine wpAnyH_done (by kernel_rfl) ?_ _
          exact ⟨rfl, q1, q2, .agg #[.slice p0 W.ws.length pc0, .slice p1 W.rs.length pc1, .int .i64 W.fl, .slice p2 W.cs.length pc2], .agg #[.slice r0 W.ws.length rc0, .slice r1 W.rs.length rc1, .int .i64 W.fl, .slice r2 W.cs.length rc2], by kernel_rfl, Two.of (hco1.down (Nat.le_of_eq (hB0.symm.trans hBd))) (hco2.down (Nat.le_of_eq (hB0.symm.trans hBd))) hdd hb1 hb2 hqq (hB0 ▸ hm1) (hB0 ▸ hm2), hB0 ▸ hm1, hB0 ▸ hm2, hgd.trans hg9⟩
      · refine runs_alw 37 [.slice none 0 0, .slice none 0 0, .int .i64 0, .slice none 0 0] zeroW fun x11 hb1 gx => ?_
        have hK2 := hK.grew gx
        have hg2 := hg9.trans gx
        have hm1 : B0 ≤ x1.heap.size := Nat.le_trans (Nat.le_of_eq hBd) hg9.sz
        replace hco1 := hco1.grew gx
        generalize x1.heap.size = q1 at hb1 hm1 ⊢
        refine ⟨hK2, ?_⟩
        clear hK hg9 gx
        have hK := hK2
        have hg9 := hg2
        clear hK2 hg2
        simp only [List.getElem_toArray, List.getElem_cons_zero, List.getElem_cons_succ, Act.put, mixA, mixL, cond_true, cond_false, List.setIfInBounds_toArray, List.set_cons_zero, List.set_cons_succ]
        refine wpAnyH_go [5, 7] (by kernel_rfl) (by simp) ⟨⟨_, rfl, rfl, ?_⟩, ⟨_, rfl, rfl, ?_⟩, trivial⟩
        · refine runs_c1 en_cpy (ev rfl) ((copy_any W wp rp cp wc rc cc _ (HRW.out.kept (HGW.trans hg9)) (HRR.out.kept (HGW.trans hg9)) (HRC.out.kept (HGW.trans hg9)) HSW.out).mono ?_)
          rintro e x12 ⟨r0, r1, r2, rc0, rc1, rc2, rfl, hco2, gx⟩
          have hK2 := hK.grew gx
          have hg2 := hg9.trans gx
          have hco1x := hco1.grew gx
          replace hb1 := hb1.grew gx
          have hdd : ∀ a b, (p0 = some a ∨ p1 = some a ∨ p2 = some a) → (r0 = some b ∨ r1 = some b ∨ r2 = some b) → a.block ≠ b.block := fun a b ha hb => by have h1 := (hco1.lt a ha).2; have h2 := (hco2.lt b hb).1; omega
          replace hco1 := hco1x
          clear hco1x
          replace hco2 := hco2.down (show V.drew.heap.size ≤ _ from hg9.sz)
          refine ⟨_, rfl, hK2, ?_⟩
          clear hK hg9 gx
          have hK := hK2
          have hg9 := hg2
          clear hK2 hg2
          simp only [List.getElem_toArray, List.getElem_cons_zero, List.getElem_cons_succ, Act.put, mixA, mixL, cond_true, cond_false, List.setIfInBounds_toArray, List.set_cons_zero, List.set_cons_succ]
          refine wpAnyH_go [7] (by kernel_rfl) (by simp) ⟨⟨_, rfl, rfl, ?_⟩, trivial⟩
          refine runs_alw 37 [.slice none 0 0, .slice none 0 0, .int .i64 0, .slice none 0 0] zeroW fun x13 hb2 gx => ?_
          have hK2 := hK.grew gx
          have hg2 := hg9.trans gx
          have hm2 : B0 ≤ x12.heap.size := Nat.le_trans (Nat.le_of_eq hBd) hg9.sz
          replace hco1 := hco1.grew gx
          replace hco2 := hco2.grew gx
          have hqq : q1 ≠ x12.heap.size := by have := hb1.lt; omega
          replace hb1 := hb1.grew gx
          generalize x12.heap.size = q2 at hb2 hm2 hqq ⊢
          refine ⟨hK2, ?_⟩
          clear hK hg9 gx
          have hK := hK2
          have hg9 := hg2
          clear hK2 hg2
          simp only [List.getElem_toArray, List.getElem_cons_zero, List.getElem_cons_succ, Act.put, mixA, mixL, cond_true, cond_false, List.setIfInBounds_toArray, List.set_cons_zero, List.set_cons_succ]
          refine wpAnyH_go [8] (by kernel_rfl) (by simp) ⟨⟨_, rfl, rfl, ?_⟩, trivial⟩
          refine runs_stw 37 (us := [.slice p0 W.ws.length pc0, .slice p1 W.rs.length pc1, .int .i64 W.fl, .slice p2 W.cs.length pc2]) (ev rfl) (ev rfl) hb1 rfl sizeW (fun v hv => by simp only [List.mem_cons, List.not_mem_nil, or_false] at hv; rcases hv with rfl | rfl | rfl | rfl <;> rfl) fun x14 hbx cx => ?_
          have hK2 := hK.chg cx (fun e => by have h1 := hK.ne hb1 (by decide); exact h1 e)
          have hg2 : Grew V.drew x14 := grew_lift hg9 cx fun k hk => by have e : k = q1 := hk; omega
          replace hco1 := hco1.chg cx hb1
          replace hco2 := hco2.chg cx hb1
          replace hb2 := hb2.chg cx (fun e => hqq e.symm)
          replace hb1 := hbx
          refine ⟨hK2, ?_⟩
          clear hK hg9 cx hbx
          have hK := hK2
          have hg9 := hg2
          clear hK2 hg2
          simp only [List.getElem_toArray, List.getElem_cons_zero, List.getElem_cons_succ, Act.put, mixA, mixL, cond_true, cond_false, List.setIfInBounds_toArray, List.set_cons_zero, List.set_cons_succ]
          refine wpAnyH_go [9] (by kernel_rfl) (by simp) ⟨⟨_, rfl, rfl, ?_⟩, trivial⟩
          refine runs_stw 37 (us := [.slice r0 W.ws.length rc0, .slice r1 W.rs.length rc1, .int .i64 W.fl, .slice r2 W.cs.length rc2]) (ev rfl) (ev rfl) hb2 rfl sizeW (fun v hv => by simp only [List.mem_cons, List.not_mem_nil, or_false] at hv; rcases hv with rfl | rfl | rfl | rfl <;> rfl) fun x15 hbx cx => ?_
          have hK2 := hK.chg cx (fun e => by have h1 := hK.ne hb2 (by decide); exact h1 e)
          have hg2 : Grew V.drew x15 := grew_lift hg9 cx fun k hk => by have e : k = q2 := hk; omega
          replace hco1 := hco1.chg cx hb2
          replace hco2 := hco2.chg cx hb2
          replace hb1 := hb1.chg cx (fun e => hqq e)
          replace hb2 := hbx
          refine ⟨hK2, ?_⟩
          clear hK hg9 cx hbx
          have hK := hK2
          have hg9 := hg2
          clear hK2 hg2
          simp only [List.getElem_toArray, List.getElem_cons_zero, List.getElem_cons_succ, Act.put, mixA, mixL, cond_true, cond_false, List.setIfInBounds_toArray, List.set_cons_zero, List.set_cons_succ]
          refine wpAnyH_done (by kernel_rfl) ?_ _
          exact ⟨rfl, q1, q2, .agg #[.slice p0 W.ws.length pc0, .slice p1 W.rs.length pc1, .int .i64 W.fl, .slice p2 W.cs.length pc2], .agg #[.slice r0 W.ws.length rc0, .slice r1 W.rs.length rc1, .int .i64 W.fl, .slice r2 W.cs.length rc2], by kernel_rfl, Two.of (hco1.down (Nat.le_of_eq (hB0.symm.trans hBd))) (hco2.down (Nat.le_of_eq (hB0.symm.trans hBd))) hdd hb1 hb2 hqq (hB0 ▸ hm1) (hB0 ▸ hm2), hB0 ▸ hm1, hB0 ▸ hm2, hgd.trans hg9⟩
        · refine runs_alw 37 [.slice none 0 0, .slice none 0 0, .int .i64 0, .slice none 0 0] zeroW fun x16 hb2 gx => ?_
          have hK2 := hK.grew gx
          have hg2 := hg9.trans gx
          have hm2 : B0 ≤ x11.heap.size := Nat.le_trans (Nat.le_of_eq hBd) hg9.sz
          replace hco1 := hco1.grew gx
          have hqq : q1 ≠ x11.heap.size := by have := hb1.lt; omega
          replace hb1 := hb1.grew gx
          generalize x11.heap.size = q2 at hb2 hm2 hqq ⊢
          refine ⟨hK2, ?_⟩
          clear hK hg9 gx
          have hK := hK2
          have hg9 := hg2
          clear hK2 hg2
          simp only [List.getElem_toArray, List.getElem_cons_zero, List.getElem_cons_succ, Act.put, mixA, mixL, cond_true, cond_false, List.setIfInBounds_toArray, List.set_cons_zero, List.set_cons_succ]
          refine wpAnyH_go [5] (by kernel_rfl) (by simp) ⟨⟨_, rfl, rfl, ?_⟩, trivial⟩
          refine runs_c1 en_cpy (ev rfl) ((copy_any W wp rp cp wc rc cc _ (HRW.out.kept (HGW.trans hg9)) (HRR.out.kept (HGW.trans hg9)) (HRC.out.kept (HGW.trans hg9)) HSW.out).mono ?_)
          rintro e x17 ⟨r0, r1, r2, rc0, rc1, rc2, rfl, hco2, gx⟩
          have hK2 := hK.grew gx
          have hg2 := hg9.trans gx
          have hco1x := hco1.grew gx
          replace hb1 := hb1.grew gx
          replace hb2 := hb2.grew gx
          have hdd : ∀ a b, (p0 = some a ∨ p1 = some a ∨ p2 = some a) → (r0 = some b ∨ r1 = some b ∨ r2 = some b) → a.block ≠ b.block := fun a b ha hb => by have h1 := (hco1.lt a ha).2; have h2 := (hco2.lt b hb).1; omega
          replace hco1 := hco1x
          clear hco1x
          replace hco2 := hco2.down (show V.drew.heap.size ≤ _ from hg9.sz)
          refine ⟨_, rfl, hK2, ?_⟩
          clear hK hg9 gx
          have hK := hK2
          have hg9 := hg2
          clear hK2 hg2
          simp only [List.getElem_toArray, List.getElem_cons_zero, List.getElem_cons_succ, Act.put, mixA, mixL, cond_true, cond_false, List.setIfInBounds_toArray, List.set_cons_zero, List.set_cons_succ]
          refine wpAnyH_go [8] (by kernel_rfl) (by simp) ⟨⟨_, rfl, rfl, ?_⟩, trivial⟩
          refine runs_stw 37 (us := [.slice p0 W.ws.length pc0, .slice p1 W.rs.length pc1, .int .i64 W.fl, .slice p2 W.cs.length pc2]) (ev rfl) (ev rfl) hb1 rfl sizeW (fun v hv => by simp only [List.mem_cons, List.not_mem_nil, or_false] at hv; rcases hv with rfl | rfl | rfl | rfl <;> rfl) fun x18 hbx cx => ?_
          have hK2 := hK.chg cx (fun e => by have h1 := hK.ne hb1 (by decide); exact h1 e)
          have hg2 : Grew V.drew x18 := grew_lift hg9 cx fun k hk => by have e : k = q1 := hk; omega
          replace hco1 := hco1.chg cx hb1
          replace hco2 := hco2.chg cx hb1
          replace hb2 := hb2.chg cx (fun e => hqq e.symm)
          replace hb1 := hbx
          refine ⟨hK2, ?_⟩
          clear hK hg9 cx hbx
          have hK := hK2
          have hg9 := hg2
          clear hK2 hg2
          simp only [List.getElem_toArray, List.getElem_cons_zero, List.getElem_cons_succ, Act.put, mixA, mixL, cond_true, cond_false, List.setIfInBounds_toArray, List.set_cons_zero, List.set_cons_succ]
          refine wpAnyH_go [9] (by kernel_rfl) (by simp) ⟨⟨_, rfl, rfl, ?_⟩, trivial⟩
          refine runs_stw 37 (us := [.slice r0 W.ws.length rc0, .slice r1 W.rs.length rc1, .int .i64 W.fl, .slice r2 W.cs.length rc2]) (ev rfl) (ev rfl) hb2 rfl sizeW (fun v hv => by simp only [List.mem_cons, List.not_mem_nil, or_false] at hv; rcases hv with rfl | rfl | rfl | rfl <;> rfl) fun x19 hbx cx => ?_
          have hK2 := hK.chg cx (fun e => by have h1 := hK.ne hb2 (by decide); exact h1 e)
          have hg2 : Grew V.drew x19 := grew_lift hg9 cx fun k hk => by have e : k = q2 := hk; omega
          replace hco1 := hco1.chg cx hb2
          replace hco2 := hco2.chg cx hb2
          replace hb1 := hb1.chg cx (fun e => hqq e)
          replace hb2 := hbx
          refine ⟨hK2, ?_⟩
          clear hK hg9 cx hbx
          have hK := hK2
          have hg9 := hg2
          clear hK2 hg2
          simp only [List.getElem_toArray, List.getElem_cons_zero, List.getElem_cons_succ, Act.put, mixA, mixL, cond_true, cond_false, List.setIfInBounds_toArray, List.set_cons_zero, List.set_cons_succ]
          refine wpAnyH_done (by kernel_rfl) ?_ _
          exact ⟨rfl, q1, q2, .agg #[.slice p0 W.ws.length pc0, .slice p1 W.rs.length pc1, .int .i64 W.fl, .slice p2 W.cs.length pc2], .agg #[.slice r0 W.ws.length rc0, .slice r1 W.rs.length rc1, .int .i64 W.fl, .slice r2 W.cs.length rc2], by kernel_rfl, Two.of (hco1.down (Nat.le_of_eq (hB0.symm.trans hBd))) (hco2.down (Nat.le_of_eq (hB0.symm.trans hBd))) hdd hb1 hb2 hqq (hB0 ▸ hm1) (hB0 ▸ hm2), hB0 ▸ hm1, hB0 ▸ hm2, hgd.trans hg9⟩
      · refine runs_alw 37 [.slice none 0 0, .slice none 0 0, .int .i64 0, .slice none 0 0] zeroW fun x20 hb2 gx => ?_
        have hK2 := hK.grew gx
        have hg2 := hg9.trans gx
        have hm2 : B0 ≤ x1.heap.size := Nat.le_trans (Nat.le_of_eq hBd) hg9.sz
        replace hco1 := hco1.grew gx
        generalize x1.heap.size = q2 at hb2 hm2 ⊢
        refine ⟨hK2, ?_⟩
        clear hK hg9 gx
        have hK := hK2
        have hg9 := hg2
        clear hK2 hg2
        simp only [List.getElem_toArray, List.getElem_cons_zero, List.getElem_cons_succ, Act.put, mixA, mixL, cond_true, cond_false, List.setIfInBounds_toArray, List.set_cons_zero, List.set_cons_succ]
        refine wpAnyH_go [5, 6] (by kernel_rfl) (by simp) ⟨⟨_, rfl, rfl, ?_⟩, ⟨_, rfl, rfl, ?_⟩, trivial⟩
        · refine runs_c1 en_cpy (ev rfl) ((copy_any W wp rp cp wc rc cc _ (HRW.out.kept (HGW.trans hg9)) (HRR.out.kept (HGW.trans hg9)) (HRC.out.kept (HGW.trans hg9)) HSW.out).mono ?_)
          rintro e x21 ⟨r0, r1, r2, rc0, rc1, rc2, rfl, hco2, gx⟩
          have hK2 := hK.grew gx
          have hg2 := hg9.trans gx
          have hco1x := hco1.grew gx
          replace hb2 := hb2.grew gx
          have hdd : ∀ a b, (p0 = some a ∨ p1 = some a ∨ p2 = some a) → (r0 = some b ∨ r1 = some b ∨ r2 = some b) → a.block ≠ b.block := fun a b ha hb => by have h1 := (hco1.lt a ha).2; have h2 := (hco2.lt b hb).1; omega
          replace hco1 := hco1x
          clear hco1x
          replace hco2 := hco2.down (show V.drew.heap.size ≤ _ from hg9.sz)
          refine ⟨_, rfl, hK2, ?_⟩
          clear hK hg9 gx
          have hK := hK2
          have hg9 := hg2
          clear hK2 hg2
          simp only [List.getElem_toArray, List.getElem_cons_zero, List.getElem_cons_succ, Act.put, mixA, mixL, cond_true, cond_false, List.setIfInBounds_toArray, List.set_cons_zero, List.set_cons_succ]
          refine wpAnyH_go [6] (by kernel_rfl) (by simp) ⟨⟨_, rfl, rfl, ?_⟩, trivial⟩
          refine runs_alw 37 [.slice none 0 0, .slice none 0 0, .int .i64 0, .slice none 0 0] zeroW fun x22 hb1 gx => ?_
          have hK2 := hK.grew gx
          have hg2 := hg9.trans gx
          have hm1 : B0 ≤ x21.heap.size := Nat.le_trans (Nat.le_of_eq hBd) hg9.sz
          replace hco1 := hco1.grew gx
          replace hco2 := hco2.grew gx
          have hqq : q2 ≠ x21.heap.size := by have := hb2.lt; omega
          replace hb2 := hb2.grew gx
          have hqq := hqq.symm
          generalize x21.heap.size = q1 at hb1 hm1 hqq ⊢
          refine ⟨hK2, ?_⟩
          clear hK hg9 gx
          have hK := hK2
          have hg9 := hg2
          clear hK2 hg2
          simp only [List.getElem_toArray, List.getElem_cons_zero, List.getElem_cons_succ, Act.put, mixA, mixL, cond_true, cond_false, List.setIfInBounds_toArray, List.set_cons_zero, List.set_cons_succ]
          refine wpAnyH_go [8] (by kernel_rfl) (by simp) ⟨⟨_, rfl, rfl, ?_⟩, trivial⟩
          refine runs_stw 37 (us := [.slice p0 W.ws.length pc0, .slice p1 W.rs.length pc1, .int .i64 W.fl, .slice p2 W.cs.length pc2]) (ev rfl) (ev rfl) hb1 rfl sizeW (fun v hv => by simp only [List.mem_cons, List.not_mem_nil, or_false] at hv; rcases hv with rfl | rfl | rfl | rfl <;> rfl) fun x23 hbx cx => ?_
          have hK2 := hK.chg cx (fun e => by have h1 := hK.ne hb1 (by decide); exact h1 e)
          have hg2 : Grew V.drew x23 := grew_lift hg9 cx fun k hk => by have e : k = q1 := hk; omega
          replace hco1 := hco1.chg cx hb1
          replace hco2 := hco2.chg cx hb1
          replace hb2 := hb2.chg cx (fun e => hqq e.symm)
          replace hb1 := hbx
          refine ⟨hK2, ?_⟩
          clear hK hg9 cx hbx
          have hK := hK2
          have hg9 := hg2
          clear hK2 hg2
          simp only [List.getElem_toArray, List.getElem_cons_zero, List.getElem_cons_succ, Act.put, mixA, mixL, cond_true, cond_false, List.setIfInBounds_toArray, List.set_cons_zero, List.set_cons_succ]
          refine wpAnyH_go [9] (by kernel_rfl) (by simp) ⟨⟨_, rfl, rfl, ?_⟩, trivial⟩
          refine runs_stw 37 (us := [.slice r0 W.ws.length rc0, .slice r1 W.rs.length rc1, .int .i64 W.fl, .slice r2 W.cs.length rc2]) (ev rfl) (ev rfl) hb2 rfl sizeW (fun v hv => by simp only [List.mem_cons, List.not_mem_nil, or_false] at hv; rcases hv with rfl | rfl | rfl | rfl <;> rfl) fun x24 hbx cx => ?_
          have hK2 := hK.chg cx (fun e => by have h1 := hK.ne hb2 (by decide); exact h1 e)
          have hg2 : Grew V.drew x24 := grew_lift hg9 cx fun k hk => by have e : k = q2 := hk; omega
          replace hco1 := hco1.chg cx hb2
          replace hco2 := hco2.chg cx hb2
          replace hb1 := hb1.chg cx (fun e => hqq e)
          replace hb2 := hbx
          refine ⟨hK2, ?_⟩
          clear hK hg9 cx hbx
          have hK := hK2
          have hg9 := hg2
          clear hK2 hg2
          simp only [List.getElem_toArray, List.getElem_cons_zero, List.getElem_cons_succ, Act.put, mixA, mixL, cond_true, cond_false, List.setIfInBounds_toArray, List.set_cons_zero, List.set_cons_succ]
          refine wpAnyH_done (by kernel_rfl) ?_ _
          exact ⟨rfl, q1, q2, .agg #[.slice p0 W.ws.length pc0, .slice p1 W.rs.length pc1, .int .i64 W.fl, .slice p2 W.cs.length pc2], .agg #[.slice r0 W.ws.length rc0, .slice r1 W.rs.length rc1, .int .i64 W.fl, .slice r2 W.cs.length rc2], by kernel_rfl, Two.of (hco1.down (Nat.le_of_eq (hB0.symm.trans hBd))) (hco2.down (Nat.le_of_eq (hB0.symm.trans hBd))) hdd hb1 hb2 hqq (hB0 ▸ hm1) (hB0 ▸ hm2), hB0 ▸ hm1, hB0 ▸ hm2, hgd.trans hg9⟩
        · refine runs_alw 37 [.slice none 0 0, .slice none 0 0, .int .i64 0, .slice none 0 0] zeroW fun x25 hb1 gx => ?_
          have hK2 := hK.grew gx
          have hg2 := hg9.trans gx
          have hm1 : B0 ≤ x20.heap.size := Nat.le_trans (Nat.le_of_eq hBd) hg9.sz
          replace hco1 := hco1.grew gx
          have hqq : q2 ≠ x20.heap.size := by have := hb2.lt; omega
          replace hb2 := hb2.grew gx
          have hqq := hqq.symm
          generalize x20.heap.size = q1 at hb1 hm1 hqq ⊢
          refine ⟨hK2, ?_⟩
          clear hK hg9 gx
          have hK := hK2
          have hg9 := hg2
          clear hK2 hg2
          simp only [List.getElem_toArray, List.getElem_cons_zero, List.getElem_cons_succ, Act.put, mixA, mixL, cond_true, cond_false, List.setIfInBounds_toArray, List.set_cons_zero, List.set_cons_succ]
          refine wpAnyH_go [5] (by kernel_rfl) (by simp) ⟨⟨_, rfl, rfl, ?_⟩, trivial⟩
          refine runs_c1 en_cpy (ev rfl) ((copy_any W wp rp cp wc rc cc _ (HRW.out.kept (HGW.trans hg9)) (HRR.out.kept (HGW.trans hg9)) (HRC.out.kept (HGW.trans hg9)) HSW.out).mono ?_)
          rintro e x26 ⟨r0, r1, r2, rc0, rc1, rc2, rfl, hco2, gx⟩
          have hK2 := hK.grew gx
          have hg2 := hg9.trans gx
          have hco1x := hco1.grew gx
          replace hb1 := hb1.grew gx
          replace hb2 := hb2.grew gx
          have hdd : ∀ a b, (p0 = some a ∨ p1 = some a ∨ p2 = some a) → (r0 = some b ∨ r1 = some b ∨ r2 = some b) → a.block ≠ b.block := fun a b ha hb => by have h1 := (hco1.lt a ha).2; have h2 := (hco2.lt b hb).1; omega
          replace hco1 := hco1x
          clear hco1x
          replace hco2 := hco2.down (show V.drew.heap.size ≤ _ from hg9.sz)
          refine ⟨_, rfl, hK2, ?_⟩
          clear hK hg9 gx
          have hK := hK2
          have hg9 := hg2
          clear hK2 hg2
          simp only [List.getElem_toArray, List.getElem_cons_zero, List.getElem_cons_succ, Act.put, mixA, mixL, cond_true, cond_false, List.setIfInBounds_toArray, List.set_cons_zero, List.set_cons_succ]
          refine wpAnyH_go [8] (by kernel_rfl) (by simp) ⟨⟨_, rfl, rfl, ?_⟩, trivial⟩
          refine runs_stw 37 (us := [.slice p0 W.ws.length pc0, .slice p1 W.rs.length pc1, .int .i64 W.fl, .slice p2 W.cs.length pc2]) (ev rfl) (ev rfl) hb1 rfl sizeW (fun v hv => by simp only [List.mem_cons, List.not_mem_nil, or_false] at hv; rcases hv with rfl | rfl | rfl | rfl <;> rfl) fun x27 hbx cx => ?_
          have hK2 := hK.chg cx (fun e => by have h1 := hK.ne hb1 (by decide); exact h1 e)
          have hg2 : Grew V.drew x27 := grew_lift hg9 cx fun k hk => by have e : k = q1 := hk; omega
          replace hco1 := hco1.chg cx hb1
          replace hco2 := hco2.chg cx hb1
          replace hb2 := hb2.chg cx (fun e => hqq e.symm)
          replace hb1 := hbx
          refine ⟨hK2, ?_⟩
          clear hK hg9 cx hbx
          have hK := hK2
          have hg9 := hg2
          clear hK2 hg2
          simp only [List.getElem_toArray, List.getElem_cons_zero, List.getElem_cons_succ, Act.put, mixA, mixL, cond_true, cond_false, List.setIfInBounds_toArray, List.set_cons_zero, List.set_cons_succ]
          refine wpAnyH_go [9] (by kernel_rfl) (by simp) ⟨⟨_, rfl, rfl, ?_⟩, trivial⟩
          refine runs_stw 37 (us := [.slice r0 W.ws.length rc0, .slice r1 W.rs.length rc1, .int .i64 W.fl, .slice r2 W.cs.length rc2]) (ev rfl) (ev rfl) hb2 rfl sizeW (fun v hv => by simp only [List.mem_cons, List.not_mem_nil, or_false] at hv; rcases hv with rfl | rfl | rfl | rfl <;> rfl) fun x28 hbx cx => ?_
          have hK2 := hK.chg cx (fun e => by have h1 := hK.ne hb2 (by decide); exact h1 e)
          have hg2 : Grew V.drew x28 := grew_lift hg9 cx fun k hk => by have e : k = q2 := hk; omega
          replace hco1 := hco1.chg cx hb2
          replace hco2 := hco2.chg cx hb2
          replace hb1 := hb1.chg cx (fun e => hqq e)
          replace hb2 := hbx
          refine ⟨hK2, ?_⟩
          clear hK hg9 cx hbx
          have hK := hK2
          have hg9 := hg2
          clear hK2 hg2
          simp only [List.getElem_toArray, List.getElem_cons_zero, List.getElem_cons_succ, Act.put, mixA, mixL, cond_true, cond_false, List.setIfInBounds_toArray, List.set_cons_zero, List.set_cons_succ]
          refine wpAnyH_done (by kernel_rfl) ?_ _
          exact ⟨rfl, q1, q2, .agg #[.slice p0 W.ws.length pc0, .slice p1 W.rs.length pc1, .int .i64 W.fl, .slice p2 W.cs.length pc2], .agg #[.slice r0 W.ws.length rc0, .slice r1 W.rs.length rc1, .int .i64 W.fl, .slice r2 W.cs.length rc2], by kernel_rfl, Two.of (hco1.down (Nat.le_of_eq (hB0.symm.trans hBd))) (hco2.down (Nat.le_of_eq (hB0.symm.trans hBd))) hdd hb1 hb2 hqq (hB0 ▸ hm1) (hB0 ▸ hm2), hB0 ▸ hm1, hB0 ▸ hm2, hgd.trans hg9⟩
    · refine runs_alw 37 [.slice none 0 0, .slice none 0 0, .int .i64 0, .slice none 0 0] zeroW fun x29 hb1 gx => ?_
      have hK2 := hK.grew gx
      have hg2 := hg9.trans gx
      have hm1 : B0 ≤ V.drew.heap.size := Nat.le_trans (Nat.le_of_eq hBd) hg9.sz
      generalize V.drew.heap.size = q1 at hb1 hm1 ⊢
      refine ⟨hK2, ?_⟩
      clear hK hg9 gx
      have hK := hK2
      have hg9 := hg2
      clear hK2 hg2
      simp only [List.getElem_toArray, List.getElem_cons_zero, List.getElem_cons_succ, Act.put, mixA, mixL, cond_true, cond_false, List.setIfInBounds_toArray, List.set_cons_zero, List.set_cons_succ]
      refine wpAnyH_go [2, 7] (by kernel_rfl) (by simp) ⟨⟨_, rfl, rfl, ?_⟩, ⟨_, rfl, rfl, ?_⟩, trivial⟩
      · refine runs_c1 en_cpy (ev rfl) ((copy_any W wp rp cp wc rc cc _ (HRW.out.kept (HGW.trans hg9)) (HRR.out.kept (HGW.trans hg9)) (HRC.out.kept (HGW.trans hg9)) HSW.out).mono ?_)
        rintro e x30 ⟨p0, p1, p2, pc0, pc1, pc2, rfl, hco1, gx⟩
        have hK2 := hK.grew gx
        have hg2 := hg9.trans gx
        replace hb1 := hb1.grew gx
        replace hco1 := hco1.down (show V.drew.heap.size ≤ _ from hg9.sz)
        refine ⟨_, rfl, hK2, ?_⟩
        clear hK hg9 gx
        have hK := hK2
        have hg9 := hg2
        clear hK2 hg2
        simp only [List.getElem_toArray, List.getElem_cons_zero, List.getElem_cons_succ, Act.put, mixA, mixL, cond_true, cond_false, List.setIfInBounds_toArray, List.set_cons_zero, List.set_cons_succ]
        refine wpAnyH_go [5, 7] (by kernel_rfl) (by simp) ⟨⟨_, rfl, rfl, ?_⟩, ⟨_, rfl, rfl, ?_⟩, trivial⟩
        · refine runs_c1 en_cpy (ev rfl) ((copy_any W wp rp cp wc rc cc _ (HRW.out.kept (HGW.trans hg9)) (HRR.out.kept (HGW.trans hg9)) (HRC.out.kept (HGW.trans hg9)) HSW.out).mono ?_)
          rintro e x31 ⟨r0, r1, r2, rc0, rc1, rc2, rfl, hco2, gx⟩
          have hK2 := hK.grew gx
          have hg2 := hg9.trans gx
          have hco1x := hco1.grew gx
          replace hb1 := hb1.grew gx
          have hdd : ∀ a b, (p0 = some a ∨ p1 = some a ∨ p2 = some a) → (r0 = some b ∨ r1 = some b ∨ r2 = some b) → a.block ≠ b.block := fun a b ha hb => by have h1 := (hco1.lt a ha).2; have h2 := (hco2.lt b hb).1; omega
          replace hco1 := hco1x
          clear hco1x
          replace hco2 := hco2.down (show V.drew.heap.size ≤ _ from hg9.sz)
          refine ⟨_, rfl, hK2, ?_⟩
          clear hK hg9 gx
          have hK := hK2
          have hg9 := hg2
          clear hK2 hg2
          simp only [List.getElem_toArray, List.getElem_cons_zero, List.getElem_cons_succ, Act.put, mixA, mixL, cond_true, cond_false, List.setIfInBounds_toArray, List.set_cons_zero, List.set_cons_succ]
          refine wpAnyH_go [7] (by kernel_rfl) (by simp) ⟨⟨_, rfl, rfl, ?_⟩, trivial⟩
          refine runs_alw 37 [.slice none 0 0, .slice none 0 0, .int .i64 0, .slice none 0 0] zeroW fun x32 hb2 gx => ?_
          have hK2 := hK.grew gx
          have hg2 := hg9.trans gx
          have hm2 : B0 ≤ x31.heap.size := Nat.le_trans (Nat.le_of_eq hBd) hg9.sz
          replace hco1 := hco1.grew gx
          replace hco2 := hco2.grew gx
          have hqq : q1 ≠ x31.heap.size := by have := hb1.lt; omega
          replace hb1 := hb1.grew gx
          generalize x31.heap.size = q2 at hb2 hm2 hqq ⊢
          refine ⟨hK2, ?_⟩
          clear hK hg9 gx
          have hK := hK2
          have hg9 := hg2
          clear hK2 hg2
          simp only [List.getElem_toArray, List.getElem_cons_zero, List.getElem_cons_succ, Act.put, mixA, mixL, cond_true, cond_false, List.setIfInBounds_toArray, List.set_cons_zero, List.set_cons_succ]
          refine wpAnyH_go [8] (by kernel_rfl) (by simp) ⟨⟨_, rfl, rfl, ?_⟩, trivial⟩
          refine runs_stw 37 (us := [.slice p0 W.ws.length pc0, .slice p1 W.rs.length pc1, .int .i64 W.fl, .slice p2 W.cs.length pc2]) (ev rfl) (ev rfl) hb1 rfl sizeW (fun v hv => by simp only [List.mem_cons, List.not_mem_nil, or_false] at hv; rcases hv with rfl | rfl | rfl | rfl <;> rfl) fun x33 hbx cx => ?_
          have hK2 := hK.chg cx (fun e => by have h1 := hK.ne hb1 (by decide); exact h1 e)
          have hg2 : Grew V.drew x33 := grew_lift hg9 cx fun k hk => by have e : k = q1 := hk; omega
          replace hco1 := hco1.chg cx hb1
          replace hco2 := hco2.chg cx hb1
          replace hb2 := hb2.chg cx (fun e => hqq e.symm)
          replace hb1 := hbx
          refine ⟨hK2, ?_⟩
          clear hK hg9 cx hbx
          have hK := hK2
          have hg9 := hg2
          clear hK2 hg2
          simp only [List.getElem_toArray, List.getElem_cons_zero, List.getElem_cons_succ, Act.put, mixA, mixL, cond_true, cond_false, List.setIfInBounds_toArray, List.set_cons_zero, List.set_cons_succ]
          refine wpAnyH_go [9] (by kernel_rfl) (by simp) ⟨⟨_, rfl, rfl, ?_⟩, trivial⟩
          refine runs_stw 37 (us := [.slice r0 W.ws.length rc0, .slice r1 W.rs.length rc1, .int .i64 W.fl, .slice r2 W.cs.length rc2]) (ev rfl) (ev rfl) hb2 rfl sizeW (fun v hv => by simp only [List.mem_cons, List.not_mem_nil, or_false] at hv; rcases hv with rfl | rfl | rfl | rfl <;> rfl) fun x34 hbx cx => ?_
          have hK2 := hK.chg cx (fun e => by have h1 := hK.ne hb2 (by decide); exact h1 e)
          have hg2 : Grew V.drew x34 := grew_lift hg9 cx fun k hk => by have e : k = q2 := hk; omega
          replace hco1 := hco1.chg cx hb2
          replace hco2 := hco2.chg cx hb2
          replace hb1 := hb1.chg cx (fun e => hqq e)
          replace hb2 := hbx
          refine ⟨hK2, ?_⟩
          clear hK hg9 cx hbx
          have hK := hK2
          have hg9 := hg2
          clear hK2 hg2
          simp only [List.getElem_toArray, List.getElem_cons_zero, List.getElem_cons_succ, Act.put, mixA, mixL, cond_true, cond_false, List.setIfInBounds_toArray, List.set_cons_zero, List.set_cons_succ]
          refine wpAnyH_done (by kernel_rfl) ?_ _
          exact ⟨rfl, q1, q2, .agg #[.slice p0 W.ws.length pc0, .slice p1 W.rs.length pc1, .int .i64 W.fl, .slice p2 W.cs.length pc2], .agg #[.slice r0 W.ws.length rc0, .slice r1 W.rs.length rc1, .int .i64 W.fl, .slice r2 W.cs.length rc2], by kernel_rfl, Two.of (hco1.down (Nat.le_of_eq (hB0.symm.trans hBd))) (hco2.down (Nat.le_of_eq (hB0.symm.trans hBd))) hdd hb1 hb2 hqq (hB0 ▸ hm1) (hB0 ▸ hm2), hB0 ▸ hm1, hB0 ▸ hm2, hgd.trans hg9⟩
        · refine runs_alw 37 [.slice none 0 0, .slice none 0 0, .int .i64 0, .slice none 0 0] zeroW fun x35 hb2 gx => ?_
          have hK2 := hK.grew gx
          have hg2 := hg9.trans gx
          have hm2 : B0 ≤ x30.heap.size := Nat.le_trans (Nat.le_of_eq hBd) hg9.sz
          replace hco1 := hco1.grew gx
          have hqq : q1 ≠ x30.heap.size := by have := hb1.lt; omega
          replace hb1 := hb1.grew gx
          generalize x30.heap.size = q2 at hb2 hm2 hqq ⊢
          refine ⟨hK2, ?_⟩
          clear hK hg9 gx
          have hK := hK2
          have hg9 := hg2
          clear hK2 hg2
          simp only [List.getElem_toArray, List.getElem_cons_zero, List.getElem_cons_succ, Act.put, mixA, mixL, cond_true, cond_false, List.setIfInBounds_toArray, List.set_cons_zero, List.set_cons_succ]
          refine wpAnyH_go [5] (by kernel_rfl) (by simp) ⟨⟨_, rfl, rfl, ?_⟩, trivial⟩
          refine runs_c1 en_cpy (ev rfl) ((copy_any W wp rp cp wc rc cc _ (HRW.out.kept (HGW.trans hg9)) (HRR.out.kept (HGW.trans hg9)) (HRC.out.kept (HGW.trans hg9)) HSW.out).mono ?_)
          rintro e x36 ⟨r0, r1, r2, rc0, rc1, rc2, rfl, hco2, gx⟩
          have hK2 := hK.grew gx
          have hg2 := hg9.trans gx
          have hco1x := hco1.grew gx
          replace hb1 := hb1.grew gx
          replace hb2 := hb2.grew gx
          have hdd : ∀ a b, (p0 = some a ∨ p1 = some a ∨ p2 = some a) → (r0 = some b ∨ r1 = some b ∨ r2 = some b) → a.block ≠ b.block := fun a b ha hb => by have h1 := (hco1.lt a ha).2; have h2 := (hco2.lt b hb).1; omega
          replace hco1 := hco1x
          clear hco1x
          replace hco2 := hco2.down (show V.drew.heap.size ≤ _ from hg9.sz)
          refine ⟨_, rfl, hK2, ?_⟩
          clear hK hg9 gx
          have hK := hK2
          have hg9 := hg2
          clear hK2 hg2
          simp only [List.getElem_toArray, List.getElem_cons_zero, List.getElem_cons_succ, Act.put, mixA, mixL, cond_true, cond_false, List.setIfInBounds_toArray, List.set_cons_zero, List.set_cons_succ]
          refine wpAnyH_go [8] (by kernel_rfl) (by simp) ⟨⟨_, rfl, rfl, ?_⟩, trivial⟩
          refine runs_stw 37 (us := [.slice p0 W.ws.length pc0, .slice p1 W.rs.length pc1, .int .i64 W.fl, .slice p2 W.cs.length pc2]) (ev rfl) (ev rfl) hb1 rfl sizeW (fun v hv => by simp only [List.mem_cons, List.not_mem_nil, or_false] at hv; rcases hv with rfl | rfl | rfl | rfl <;> rfl) fun x37 hbx cx => ?_
          have hK2 := hK.chg cx (fun e => by have h1 := hK.ne hb1 (by decide); exact h1 e)
          have hg2 : Grew V.drew x37 := grew_lift hg9 cx fun k hk => by have e : k = q1 := hk; omega
          replace hco1 := hco1.chg cx hb1
          replace hco2 := hco2.chg cx hb1
          replace hb2 := hb2.chg cx (fun e => hqq e.symm)
          replace hb1 := hbx
          refine ⟨hK2, ?_⟩
          clear hK hg9 cx hbx
          have hK := hK2
          have hg9 := hg2
          clear hK2 hg2
          simp only [List.getElem_toArray, List.getElem_cons_zero, List.getElem_cons_succ, Act.put, mixA, mixL, cond_true, cond_false, List.setIfInBounds_toArray, List.set_cons_zero, List.set_cons_succ]
          refine wpAnyH_go [9] (by kernel_rfl) (by simp) ⟨⟨_, rfl, rfl, ?_⟩, trivial⟩
          refine runs_stw 37 (us := [.slice r0 W.ws.length rc0, .slice r1 W.rs.length rc1, .int .i64 W.fl, .slice r2 W.cs.length rc2]) (ev rfl) (ev rfl) hb2 rfl sizeW (fun v hv => by simp only [List.mem_cons, List.not_mem_nil, or_false] at hv; rcases hv with rfl | rfl | rfl | rfl <;> rfl) fun x38 hbx cx => ?_
          have hK2 := hK.chg cx (fun e => by have h1 := hK.ne hb2 (by decide); exact h1 e)
          have hg2 : Grew V.drew x38 := grew_lift hg9 cx fun k hk => by have e : k = q2 := hk; omega
          replace hco1 := hco1.chg cx hb2
          replace hco2 := hco2.chg cx hb2
          replace hb1 := hb1.chg cx (fun e => hqq e)
          replace hb2 := hbx
          refine ⟨hK2, ?_⟩
          clear hK hg9 cx hbx
          have hK := hK2
          have hg9 := hg2
          clear hK2 hg2
          simp only [List.getElem_toArray, List.getElem_cons_zero, List.getElem_cons_succ, Act.put, mixA, mixL, cond_true, cond_false, List.setIfInBounds_toArray, List.set_cons_zero, List.set_cons_succ]
          refine wpAnyH_done (by kernel_rfl) ?_ _
          exact ⟨rfl, q1, q2, .agg #[.slice p0 W.ws.length pc0, .slice p1 W.rs.length pc1, .int .i64 W.fl, .slice p2 W.cs.length pc2], .agg #[.slice r0 W.ws.length rc0, .slice r1 W.rs.length rc1, .int .i64 W.fl, .slice r2 W.cs.length rc2], by kernel_rfl, Two.of (hco1.down (Nat.le_of_eq (hB0.symm.trans hBd))) (hco2.down (Nat.le_of_eq (hB0.symm.trans hBd))) hdd hb1 hb2 hqq (hB0 ▸ hm1) (hB0 ▸ hm2), hB0 ▸ hm1, hB0 ▸ hm2, hgd.trans hg9⟩
      · refine runs_alw 37 [.slice none 0 0, .slice none 0 0, .int .i64 0, .slice none 0 0] zeroW fun x39 hb2 gx => ?_
        have hK2 := hK.grew gx
        have hg2 := hg9.trans gx
        have hm2 : B0 ≤ x29.heap.size := Nat.le_trans (Nat.le_of_eq hBd) hg9.sz
        have hqq : q1 ≠ x29.heap.size := by have := hb1.lt; omega
        replace hb1 := hb1.grew gx
        generalize x29.heap.size = q2 at hb2 hm2 hqq ⊢
        refine ⟨hK2, ?_⟩
        clear hK hg9 gx
        have hK := hK2
        have hg9 := hg2
        clear hK2 hg2
        simp only [List.getElem_toArray, List.getElem_cons_zero, List.getElem_cons_succ, Act.put, mixA, mixL, cond_true, cond_false, List.setIfInBounds_toArray, List.set_cons_zero, List.set_cons_succ]
        refine wpAnyH_go [2] (by kernel_rfl) (by simp) ⟨⟨_, rfl, rfl, ?_⟩, trivial⟩
        refine runs_c1 en_cpy (ev rfl) ((copy_any W wp rp cp wc rc cc _ (HRW.out.kept (HGW.trans hg9)) (HRR.out.kept (HGW.trans hg9)) (HRC.out.kept (HGW.trans hg9)) HSW.out).mono ?_)
        rintro e x40 ⟨p0, p1, p2, pc0, pc1, pc2, rfl, hco1, gx⟩
        have hK2 := hK.grew gx
        have hg2 := hg9.trans gx
        replace hb1 := hb1.grew gx
        replace hb2 := hb2.grew gx
        replace hco1 := hco1.down (show V.drew.heap.size ≤ _ from hg9.sz)
        refine ⟨_, rfl, hK2, ?_⟩
        clear hK hg9 gx
        have hK := hK2
        have hg9 := hg2
        clear hK2 hg2
        simp only [List.getElem_toArray, List.getElem_cons_zero, List.getElem_cons_succ, Act.put, mixA, mixL, cond_true, cond_false, List.setIfInBounds_toArray, List.set_cons_zero, List.set_cons_succ]
        refine wpAnyH_go [5] (by kernel_rfl) (by simp) ⟨⟨_, rfl, rfl, ?_⟩, trivial⟩
        refine runs_c1 en_cpy (ev rfl) ((copy_any W wp rp cp wc rc cc _ (HRW.out.kept (HGW.trans hg9)) (HRR.out.kept (HGW.trans hg9)) (HRC.out.kept (HGW.trans hg9)) HSW.out).mono ?_)
        rintro e x41 ⟨r0, r1, r2, rc0, rc1, rc2, rfl, hco2, gx⟩
        have hK2 := hK.grew gx
        have hg2 := hg9.trans gx
        have hco1x := hco1.grew gx
        replace hb1 := hb1.grew gx
        replace hb2 := hb2.grew gx
        have hdd : ∀ a b, (p0 = some a ∨ p1 = some a ∨ p2 = some a) → (r0 = some b ∨ r1 = some b ∨ r2 = some b) → a.block ≠ b.block := fun a b ha hb => by have h1 := (hco1.lt a ha).2; have h2 := (hco2.lt b hb).1; omega
        replace hco1 := hco1x
        clear hco1x
        replace hco2 := hco2.down (show V.drew.heap.size ≤ _ from hg9.sz)
        refine ⟨_, rfl, hK2, ?_⟩
        clear hK hg9 gx
        have hK := hK2
        have hg9 := hg2
        clear hK2 hg2
        simp only [List.getElem_toArray, List.getElem_cons_zero, List.getElem_cons_succ, Act.put, mixA, mixL, cond_true, cond_false, List.setIfInBounds_toArray, List.set_cons_zero, List.set_cons_succ]
        refine wpAnyH_go [8] (by kernel_rfl) (by simp) ⟨⟨_, rfl, rfl, ?_⟩, trivial⟩
        refine runs_stw 37 (us := [.slice p0 W.ws.length pc0, .slice p1 W.rs.length pc1, .int .i64 W.fl, .slice p2 W.cs.length pc2]) (ev rfl) (ev rfl) hb1 rfl sizeW (fun v hv => by simp only [List.mem_cons, List.not_mem_nil, or_false] at hv; rcases hv with rfl | rfl | rfl | rfl <;> rfl) fun x42 hbx cx => ?_
        have hK2 := hK.chg cx (fun e => by have h1 := hK.ne hb1 (by decide); exact h1 e)
        have hg2 : Grew V.drew x42 := grew_lift hg9 cx fun k hk => by have e : k = q1 := hk; omega
        replace hco1 := hco1.chg cx hb1
        replace hco2 := hco2.chg cx hb1
        replace hb2 := hb2.chg cx (fun e => hqq e.symm)
        replace hb1 := hbx
        refine ⟨hK2, ?_⟩
        clear hK hg9 cx hbx
        have hK := hK2
        have hg9 := hg2
        clear hK2 hg2
        simp only [List.getElem_toArray, List.getElem_cons_zero, List.getElem_cons_succ, Act.put, mixA, mixL, cond_true, cond_false, List.setIfInBounds_toArray, List.set_cons_zero, List.set_cons_succ]
        refine wpAnyH_go [9] (by kernel_rfl) (by simp) ⟨⟨_, rfl, rfl, ?_⟩, trivial⟩
        refine runs_stw 37 (us := [.slice r0 W.ws.length rc0, .slice r1 W.rs.length rc1, .int .i64 W.fl, .slice r2 W.cs.length rc2]) (ev rfl) (ev rfl) hb2 rfl sizeW (fun v hv => by simp only [List.mem_cons, List.not_mem_nil, or_false] at hv; rcases hv with rfl | rfl | rfl | rfl <;> rfl) fun x43 hbx cx => ?_
        have hK2 := hK.chg cx (fun e => by have h1 := hK.ne hb2 (by decide); exact h1 e)
        have hg2 : Grew V.drew x43 := grew_lift hg9 cx fun k hk => by have e : k = q2 := hk; omega
        replace hco1 := hco1.chg cx hb2
        replace hco2 := hco2.chg cx hb2
        replace hb1 := hb1.chg cx (fun e => hqq e)
        replace hb2 := hbx
        refine ⟨hK2, ?_⟩
        clear hK hg9 cx hbx
        have hK := hK2
        have hg9 := hg2
        clear hK2 hg2
        simp only [List.getElem_toArray, List.getElem_cons_zero, List.getElem_cons_succ, Act.put, mixA, mixL, cond_true, cond_false, List.setIfInBounds_toArray, List.set_cons_zero, List.set_cons_succ]
        refine wpAnyH_done (by kernel_rfl) ?_ _
        exact ⟨rfl, q1, q2, .agg #[.slice p0 W.ws.length pc0, .slice p1 W.rs.length pc1, .int .i64 W.fl, .slice p2 W.cs.length pc2], .agg #[.slice r0 W.ws.length rc0, .slice r1 W.rs.length rc1, .int .i64 W.fl, .slice r2 W.cs.length rc2], by kernel_rfl, Two.of (hco1.down (Nat.le_of_eq (hB0.symm.trans hBd))) (hco2.down (Nat.le_of_eq (hB0.symm.trans hBd))) hdd hb1 hb2 hqq (hB0 ▸ hm1) (hB0 ▸ hm2), hB0 ▸ hm1, hB0 ▸ hm2, hgd.trans hg9⟩
    · refine runs_alw 37 [.slice none 0 0, .slice none 0 0, .int .i64 0, .slice none 0 0] zeroW fun x44 hb2 gx => ?_
      have hK2 := hK.grew gx
      have hg2 := hg9.trans gx
      have hm2 : B0 ≤ V.drew.heap.size := Nat.le_trans (Nat.le_of_eq hBd) hg9.sz
      generalize V.drew.heap.size = q2 at hb2 hm2 ⊢
      refine ⟨hK2, ?_⟩
      clear hK hg9 gx
      have hK := hK2
      have hg9 := hg2
      clear hK2 hg2
      simp only [List.getElem_toArray, List.getElem_cons_zero, List.getElem_cons_succ, Act.put, mixA, mixL, cond_true, cond_false, List.setIfInBounds_toArray, List.set_cons_zero, List.set_cons_succ]
      refine wpAnyH_go [2, 6] (by kernel_rfl) (by simp) ⟨⟨_, rfl, rfl, ?_⟩, ⟨_, rfl, rfl, ?_⟩, trivial⟩
      · refine runs_c1 en_cpy (ev rfl) ((copy_any W wp rp cp wc rc cc _ (HRW.out.kept (HGW.trans hg9)) (HRR.out.kept (HGW.trans hg9)) (HRC.out.kept (HGW.trans hg9)) HSW.out).mono ?_)
        rintro e x45 ⟨p0, p1, p2, pc0, pc1, pc2, rfl, hco1, gx⟩
        have hK2 := hK.grew gx
        have hg2 := hg9.trans gx
        replace hb2 := hb2.grew gx
        replace hco1 := hco1.down (show V.drew.heap.size ≤ _ from hg9.sz)
        refine ⟨_, rfl, hK2, ?_⟩
        clear hK hg9 gx
        have hK := hK2
        have hg9 := hg2
        clear hK2 hg2
        simp only [List.getElem_toArray, List.getElem_cons_zero, List.getElem_cons_succ, Act.put, mixA, mixL, cond_true, cond_false, List.setIfInBounds_toArray, List.set_cons_zero, List.set_cons_succ]
        refine wpAnyH_go [5, 6] (by kernel_rfl) (by simp) ⟨⟨_, rfl, rfl, ?_⟩, ⟨_, rfl, rfl, ?_⟩, trivial⟩
        · refine runs_c1 en_cpy (ev rfl) ((copy_any W wp rp cp wc rc cc _ (HRW.out.kept (HGW.trans hg9)) (HRR.out.kept (HGW.trans hg9)) (HRC.out.kept (HGW.trans hg9)) HSW.out).mono ?_)
          rintro e x46 ⟨r0, r1, r2, rc0, rc1, rc2, rfl, hco2, gx⟩
          have hK2 := hK.grew gx
          have hg2 := hg9.trans gx
          have hco1x := hco1.grew gx
          replace hb2 := hb2.grew gx
          have hdd : ∀ a b, (p0 = some a ∨ p1 = some a ∨ p2 = some a) → (r0 = some b ∨ r1 = some b ∨ r2 = some b) → a.block ≠ b.block := fun a b ha hb => by have h1 := (hco1.lt a ha).2; have h2 := (hco2.lt b hb).1; omega
          replace hco1 := hco1x
          clear hco1x
          replace hco2 := hco2.down (show V.drew.heap.size ≤ _ from hg9.sz)
          refine ⟨_, rfl, hK2, ?_⟩
          clear hK hg9 gx
          have hK := hK2
          have hg9 := hg2
          clear hK2 hg2
          simp only [List.getElem_toArray, List.getElem_cons_zero, List.getElem_cons_succ, Act.put, mixA, mixL, cond_true, cond_false, List.setIfInBounds_toArray, List.set_cons_zero, List.set_cons_succ]
          refine wpAnyH_go [6] (by kernel_rfl) (by simp) ⟨⟨_, rfl, rfl, ?_⟩, trivial⟩
          refine runs_alw 37 [.slice none 0 0, .slice none 0 0, .int .i64 0, .slice none 0 0] zeroW fun x47 hb1 gx => ?_
          have hK2 := hK.grew gx
          have hg2 := hg9.trans gx
          have hm1 : B0 ≤ x46.heap.size := Nat.le_trans (Nat.le_of_eq hBd) hg9.sz
          replace hco1 := hco1.grew gx
          replace hco2 := hco2.grew gx
          have hqq : q2 ≠ x46.heap.size := by have := hb2.lt; omega
          replace hb2 := hb2.grew gx
          have hqq := hqq.symm
          generalize x46.heap.size = q1 at hb1 hm1 hqq ⊢
          refine ⟨hK2, ?_⟩
          clear hK hg9 gx
          have hK := hK2
          have hg9 := hg2
          clear hK2 hg2
          simp only [List.getElem_toArray, List.getElem_cons_zero, List.getElem_cons_succ, Act.put, mixA, mixL, cond_true, cond_false, List.setIfInBounds_toArray, List.set_cons_zero, List.set_cons_succ]
          refine wpAnyH_go [8] (by kernel_rfl) (by simp) ⟨⟨_, rfl, rfl, ?_⟩, trivial⟩
          refine runs_stw 37 (us := [.slice p0 W.ws.length pc0, .slice p1 W.rs.length pc1, .int .i64 W.fl, .slice p2 W.cs.length pc2]) (ev rfl) (ev rfl) hb1 rfl sizeW (fun v hv => by simp only [List.mem_cons, List.not_mem_nil, or_false] at hv; rcases hv with rfl | rfl | rfl | rfl <;> rfl) fun x48 hbx cx => ?_
          have hK2 := hK.chg cx (fun e => by have h1 := hK.ne hb1 (by decide); exact h1 e)
          have hg2 : Grew V.drew x48 := grew_lift hg9 cx fun k hk => by have e : k = q1 := hk; omega
          replace hco1 := hco1.chg cx hb1
          replace hco2 := hco2.chg cx hb1
          replace hb2 := hb2.chg cx (fun e => hqq e.symm)
          replace hb1 := hbx
          refine ⟨hK2, ?_⟩
          clear hK hg9 cx hbx
          have hK := hK2
          have hg9 := hg2
          clear hK2 hg2
          simp only [List.getElem_toArray, List.getElem_cons_zero, List.getElem_cons_succ, Act.put, mixA, mixL, cond_true, cond_false, List.setIfInBounds_toArray, List.set_cons_zero, List.set_cons_succ]
          refine wpAnyH_go [9] (by kernel_rfl) (by simp) ⟨⟨_, rfl, rfl, ?_⟩, trivial⟩
          refine runs_stw 37 (us := [.slice r0 W.ws.length rc0, .slice r1 W.rs.length rc1, .int .i64 W.fl, .slice r2 W.cs.length rc2]) (ev rfl) (ev rfl) hb2 rfl sizeW (fun v hv => by simp only [List.mem_cons, List.not_mem_nil, or_false] at hv; rcases hv with rfl | rfl | rfl | rfl <;> rfl) fun x49 hbx cx => ?_
          have hK2 := hK.chg cx (fun e => by have h1 := hK.ne hb2 (by decide); exact h1 e)
          have hg2 : Grew V.drew x49 := grew_lift hg9 cx fun k hk => by have e : k = q2 := hk; omega
          replace hco1 := hco1.chg cx hb2
          replace hco2 := hco2.chg cx hb2
          replace hb1 := hb1.chg cx (fun e => hqq e)
          replace hb2 := hbx
          refine ⟨hK2, ?_⟩
          clear hK hg9 cx hbx
          have hK := hK2
          have hg9 := hg2
          clear hK2 hg2
          simp only [List.getElem_toArray, List.getElem_cons_zero, List.getElem_cons_succ, Act.put, mixA, mixL, cond_true, cond_false, List.setIfInBounds_toArray, List.set_cons_zero, List.set_cons_succ]
          refine wpAnyH_done (by kernel_rfl) ?_ _
          exact ⟨rfl, q1, q2, .agg #[.slice p0 W.ws.length pc0, .slice p1 W.rs.length pc1, .int .i64 W.fl, .slice p2 W.cs.length pc2], .agg #[.slice r0 W.ws.length rc0, .slice r1 W.rs.length rc1, .int .i64 W.fl, .slice r2 W.cs.length rc2], by kernel_rfl, Two.of (hco1.down (Nat.le_of_eq (hB0.symm.trans hBd))) (hco2.down (Nat.le_of_eq (hB0.symm.trans hBd))) hdd hb1 hb2 hqq (hB0 ▸ hm1) (hB0 ▸ hm2), hB0 ▸ hm1, hB0 ▸ hm2, hgd.trans hg9⟩
        · refine runs_alw 37 [.slice none 0 0, .slice none 0 0, .int .i64 0, .slice none 0 0] zeroW fun x50 hb1 gx => ?_
          have hK2 := hK.grew gx
          have hg2 := hg9.trans gx
          have hm1 : B0 ≤ x45.heap.size := Nat.le_trans (Nat.le_of_eq hBd) hg9.sz
          replace hco1 := hco1.grew gx
          have hqq : q2 ≠ x45.heap.size := by have := hb2.lt; omega
          replace hb2 := hb2.grew gx
          have hqq := hqq.symm
          generalize x45.heap.size = q1 at hb1 hm1 hqq ⊢
          refine ⟨hK2, ?_⟩
          clear hK hg9 gx
          have hK := hK2
          have hg9 := hg2
          clear hK2 hg2
          simp only [List.getElem_toArray, List.getElem_cons_zero, List.getElem_cons_succ, Act.put, mixA, mixL, cond_true, cond_false, List.setIfInBounds_toArray, List.set_cons_zero, List.set_cons_succ]
          refine wpAnyH_go [5] (by kernel_rfl) (by simp) ⟨⟨_, rfl, rfl, ?_⟩, trivial⟩
          refine runs_c1 en_cpy (ev rfl) ((copy_any W wp rp cp wc rc cc _ (HRW.out.kept (HGW.trans hg9)) (HRR.out.kept (HGW.trans hg9)) (HRC.out.kept (HGW.trans hg9)) HSW.out).mono ?_)
          rintro e x51 ⟨r0, r1, r2, rc0, rc1, rc2, rfl, hco2, gx⟩
          have hK2 := hK.grew gx
          have hg2 := hg9.trans gx
          have hco1x := hco1.grew gx
          replace hb1 := hb1.grew gx
          replace hb2 := hb2.grew gx
          have hdd : ∀ a b, (p0 = some a ∨ p1 = some a ∨ p2 = some a) → (r0 = some b ∨ r1 = some b ∨ r2 = some b) → a.block ≠ b.block := fun a b ha hb => by have h1 := (hco1.lt a ha).2; have h2 := (hco2.lt b hb).1; omega
          replace hco1 := hco1x
          clear hco1x
          replace hco2 := hco2.down (show V.drew.heap.size ≤ _ from hg9.sz)
          refine ⟨_, rfl, hK2, ?_⟩
          clear hK hg9 gx
          have hK := hK2
          have hg9 := hg2
          clear hK2 hg2
          simp only [List.getElem_toArray, List.getElem_cons_zero, List.getElem_cons_succ, Act.put, mixA, mixL, cond_true, cond_false, List.setIfInBounds_toArray, List.set_cons_zero, List.set_cons_succ]
          refine wpAnyH_go [8] (by kernel_rfl) (by simp) ⟨⟨_, rfl, rfl, ?_⟩, trivial⟩
          refine runs_stw 37 (us := [.slice p0 W.ws.length pc0, .slice p1 W.rs.length pc1, .int .i64 W.fl, .slice p2 W.cs.length pc2]) (ev rfl) (ev rfl) hb1 rfl sizeW (fun v hv => by simp only [List.mem_cons, List.not_mem_nil, or_false] at hv; rcases hv with rfl | rfl | rfl | rfl <;> rfl) fun x52 hbx cx => ?_
          have hK2 := hK.chg cx (fun e => by have h1 := hK.ne hb1 (by decide); exact h1 e)
          have hg2 : Grew V.drew x52 := grew_lift hg9 cx fun k hk => by have e : k = q1 := hk; omega
          replace hco1 := hco1.chg cx hb1
          replace hco2 := hco2.chg cx hb1
          replace hb2 := hb2.chg cx (fun e => hqq e.symm)
          replace hb1 := hbx
          refine ⟨hK2, ?_⟩
          clear hK hg9 cx hbx
          have hK := hK2
          have hg9 := hg2
          clear hK2 hg2
          simp only [List.getElem_toArray, List.getElem_cons_zero, List.getElem_cons_succ, Act.put, mixA, mixL, cond_true, cond_false, List.setIfInBounds_toArray, List.set_cons_zero, List.set_cons_succ]
          refine wpAnyH_go [9] (by kernel_rfl) (by simp) ⟨⟨_, rfl, rfl, ?_⟩, trivial⟩
          refine runs_stw 37 (us := [.slice r0 W.ws.length rc0, .slice r1 W.rs.length rc1, .int .i64 W.fl, .slice r2 W.cs.length rc2]) (ev rfl) (ev rfl) hb2 rfl sizeW (fun v hv => by simp only [List.mem_cons, List.not_mem_nil, or_false] at hv; rcases hv with rfl | rfl | rfl | rfl <;> rfl) fun x53 hbx cx => ?_
          have hK2 := hK.chg cx (fun e => by have h1 := hK.ne hb2 (by decide); exact h1 e)
          have hg2 : Grew V.drew x53 := grew_lift hg9 cx fun k hk => by have e : k = q2 := hk; omega
          replace hco1 := hco1.chg cx hb2
          replace hco2 := hco2.chg cx hb2
          replace hb1 := hb1.chg cx (fun e => hqq e)
          replace hb2 := hbx
          refine ⟨hK2, ?_⟩
          clear hK hg9 cx hbx
          have hK := hK2
          have hg9 := hg2
          clear hK2 hg2
          simp only [List.getElem_toArray, List.getElem_cons_zero, List.getElem_cons_succ, Act.put, mixA, mixL, cond_true, cond_false, List.setIfInBounds_toArray, List.set_cons_zero, List.set_cons_succ]
          refine wpAnyH_done (by kernel_rfl) ?_ _
          exact ⟨rfl, q1, q2, .agg #[.slice p0 W.ws.length pc0, .slice p1 W.rs.length pc1, .int .i64 W.fl, .slice p2 W.cs.length pc2], .agg #[.slice r0 W.ws.length rc0, .slice r1 W.rs.length rc1, .int .i64 W.fl, .slice r2 W.cs.length rc2], by kernel_rfl, Two.of (hco1.down (Nat.le_of_eq (hB0.symm.trans hBd))) (hco2.down (Nat.le_of_eq (hB0.symm.trans hBd))) hdd hb1 hb2 hqq (hB0 ▸ hm1) (hB0 ▸ hm2), hB0 ▸ hm1, hB0 ▸ hm2, hgd.trans hg9⟩
      · refine runs_alw 37 [.slice none 0 0, .slice none 0 0, .int .i64 0, .slice none 0 0] zeroW fun x54 hb1 gx => ?_
        have hK2 := hK.grew gx
        have hg2 := hg9.trans gx
        have hm1 : B0 ≤ x44.heap.size := Nat.le_trans (Nat.le_of_eq hBd) hg9.sz
        have hqq : q2 ≠ x44.heap.size := by have := hb2.lt; omega
        replace hb2 := hb2.grew gx
        have hqq := hqq.symm
        generalize x44.heap.size = q1 at hb1 hm1 hqq ⊢
        refine ⟨hK2, ?_⟩
        clear hK hg9 gx
        have hK := hK2
        have hg9 := hg2
        clear hK2 hg2
        simp only [List.getElem_toArray, List.getElem_cons_zero, List.getElem_cons_succ, Act.put, mixA, mixL, cond_true, cond_false, List.setIfInBounds_toArray, List.set_cons_zero, List.set_cons_succ]
        refine wpAnyH_go [2] (by kernel_rfl) (by simp) ⟨⟨_, rfl, rfl, ?_⟩, trivial⟩
        refine runs_c1 en_cpy (ev rfl) ((copy_any W wp rp cp wc rc cc _ (HRW.out.kept (HGW.trans hg9)) (HRR.out.kept (HGW.trans hg9)) (HRC.out.kept (HGW.trans hg9)) HSW.out).mono ?_)
        rintro e x55 ⟨p0, p1, p2, pc0, pc1, pc2, rfl, hco1, gx⟩
        have hK2 := hK.grew gx
        have hg2 := hg9.trans gx
        replace hb1 := hb1.grew gx
        replace hb2 := hb2.grew gx
        replace hco1 := hco1.down (show V.drew.heap.size ≤ _ from hg9.sz)
        refine ⟨_, rfl, hK2, ?_⟩
        clear hK hg9 gx
        have hK := hK2
        have hg9 := hg2
        clear hK2 hg2
        simp only [List.getElem_toArray, List.getElem_cons_zero, List.getElem_cons_succ, Act.put, mixA, mixL, cond_true, cond_false, List.setIfInBounds_toArray, List.set_cons_zero, List.set_cons_succ]
        refine wpAnyH_go [5] (by kernel_rfl) (by simp) ⟨⟨_, rfl, rfl, ?_⟩, trivial⟩
        refine runs_c1 en_cpy (ev rfl) ((copy_any W wp rp cp wc rc cc _ (HRW.out.kept (HGW.trans hg9)) (HRR.out.kept (HGW.trans hg9)) (HRC.out.kept (HGW.trans hg9)) HSW.out).mono ?_)
        rintro e x56 ⟨r0, r1, r2, rc0, rc1, rc2, rfl, hco2, gx⟩
        have hK2 := hK.grew gx
        have hg2 := hg9.trans gx
        have hco1x := hco1.grew gx
        replace hb1 := hb1.grew gx
        replace hb2 := hb2.grew gx
        have hdd : ∀ a b, (p0 = some a ∨ p1 = some a ∨ p2 = some a) → (r0 = some b ∨ r1 = some b ∨ r2 = some b) → a.block ≠ b.block := fun a b ha hb => by have h1 := (hco1.lt a ha).2; have h2 := (hco2.lt b hb).1; omega
        replace hco1 := hco1x
        clear hco1x
        replace hco2 := hco2.down (show V.drew.heap.size ≤ _ from hg9.sz)
        refine ⟨_, rfl, hK2, ?_⟩
        clear hK hg9 gx
        have hK := hK2
        have hg9 := hg2
        clear hK2 hg2
        simp only [List.getElem_toArray, List.getElem_cons_zero, List.getElem_cons_succ, Act.put, mixA, mixL, cond_true, cond_false, List.setIfInBounds_toArray, List.set_cons_zero, List.set_cons_succ]
        refine wpAnyH_go [8] (by kernel_rfl) (by simp) ⟨⟨_, rfl, rfl, ?_⟩, trivial⟩
        refine runs_stw 37 (us := [.slice p0 W.ws.length pc0, .slice p1 W.rs.length pc1, .int .i64 W.fl, .slice p2 W.cs.length pc2]) (ev rfl) (ev rfl) hb1 rfl sizeW (fun v hv => by simp only [List.mem_cons, List.not_mem_nil, or_false] at hv; rcases hv with rfl | rfl | rfl | rfl <;> rfl) fun x57 hbx cx => ?_
        have hK2 := hK.chg cx (fun e => by have h1 := hK.ne hb1 (by decide); exact h1 e)
        have hg2 : Grew V.drew x57 := grew_lift hg9 cx fun k hk => by have e : k = q1 := hk; omega
        replace hco1 := hco1.chg cx hb1
        replace hco2 := hco2.chg cx hb1
        replace hb2 := hb2.chg cx (fun e => hqq e.symm)
        replace hb1 := hbx
        refine ⟨hK2, ?_⟩
        clear hK hg9 cx hbx
        have hK := hK2
        have hg9 := hg2
        clear hK2 hg2
        simp only [List.getElem_toArray, List.getElem_cons_zero, List.getElem_cons_succ, Act.put, mixA, mixL, cond_true, cond_false, List.setIfInBounds_toArray, List.set_cons_zero, List.set_cons_succ]
        refine wpAnyH_go [9] (by kernel_rfl) (by simp) ⟨⟨_, rfl, rfl, ?_⟩, trivial⟩
        refine runs_stw 37 (us := [.slice r0 W.ws.length rc0, .slice r1 W.rs.length rc1, .int .i64 W.fl, .slice r2 W.cs.length rc2]) (ev rfl) (ev rfl) hb2 rfl sizeW (fun v hv => by simp only [List.mem_cons, List.not_mem_nil, or_false] at hv; rcases hv with rfl | rfl | rfl | rfl <;> rfl) fun x58 hbx cx => ?_
        have hK2 := hK.chg cx (fun e => by have h1 := hK.ne hb2 (by decide); exact h1 e)
        have hg2 : Grew V.drew x58 := grew_lift hg9 cx fun k hk => by have e : k = q2 := hk; omega
        replace hco1 := hco1.chg cx hb2
        replace hco2 := hco2.chg cx hb2
        replace hb1 := hb1.chg cx (fun e => hqq e)
        replace hb2 := hbx
        refine ⟨hK2, ?_⟩
        clear hK hg9 cx hbx
        have hK := hK2
        have hg9 := hg2
        clear hK2 hg2
        simp only [List.getElem_toArray, List.getElem_cons_zero, List.getElem_cons_succ, Act.put, mixA, mixL, cond_true, cond_false, List.setIfInBounds_toArray, List.set_cons_zero, List.set_cons_succ]
        refine wpAnyH_done (by kernel_rfl) ?_ _
        exact ⟨rfl, q1, q2, .agg #[.slice p0 W.ws.length pc0, .slice p1 W.rs.length pc1, .int .i64 W.fl, .slice p2 W.cs.length pc2], .agg #[.slice r0 W.ws.length rc0, .slice r1 W.rs.length rc1, .int .i64 W.fl, .slice r2 W.cs.length rc2], by kernel_rfl, Two.of (hco1.down (Nat.le_of_eq (hB0.symm.trans hBd))) (hco2.down (Nat.le_of_eq (hB0.symm.trans hBd))) hdd hb1 hb2 hqq (hB0 ▸ hm1) (hB0 ▸ hm2), hB0 ▸ hm1, hB0 ▸ hm2, hgd.trans hg9⟩
  rintro a' V2 ⟨q1, q2, v1, v2, rfl, hTwo, hq1, hq2, g2⟩
  simp only [List.getElem_toArray, List.getElem_cons_zero, List.getElem_cons_succ, Act.put, mixA, mixL, cond_true, cond_false, List.setIfInBounds_toArray, List.set_cons_zero, List.set_cons_succ]
  have HTW := Lib.hid hTwo
  have HG2 := Lib.hid g2
  replace HBK := Lib.hid (HBK.out.grew g2)
  clear hTwo hq1 hq2 g2
  go_upto_region 6 with fail
  refine cut_code (fun a0 a2 w2 => ∃ C D, a2 = ((((((((a0.put (some 30) (.pointer (some ⟨K, 0, none⟩))).put (some 31) (.agg (stv s).toArray)).put (some 32) (.agg (stv s).toArray)).put (some 33) (.pointer (some ⟨K, 0, none⟩))).put (some 34) (.agg (stv s).toArray)).put (some 35) (.agg (stv s).toArray)).put (some 9) (.pointer (some ⟨C, 0, none⟩))).put (some 10) (.pointer (some ⟨D, 0, none⟩))) ∧ Blk C (stv s) CPT w2 ∧ Blk D (stv s) CPT w2 ∧ C ≠ D ∧ V2.heap.size ≤ C ∧ V2.heap.size ≤ D ∧ Grew V2 w2) ?_ ?_
  · have hgd : Grew V2 V2.drew := (Grew.refl _).drw
    have hK := HBK.out.grew hgd
    have hg9 := Grew.refl V2.drew
    obtain ⟨B0, hB0⟩ : ∃ B0, B0 = V2.heap.size := ⟨_, rfl⟩
    have hBd : B0 = V2.drew.heap.size := hB0
    have yld : ∀ (W9 : World), Blk K (stv s ++ ([.slice wp W.ws.length wc, .slice rp W.rs.length rc, .int .i64 W.fl, .slice cp W.cs.length cc] : List Value)) 39 W9 → W9.rangeAt K 0 (stv s) := fun W9 h => case_st HS.out h
    refine wp_region_held_drew (S := fun W9 => Blk K (stv s ++ ([.slice wp W.ws.length wc, .slice rp W.rs.length rc, .int .i64 W.fl, .slice cp W.cs.length cc] : List Value)) 39 W9) (by kernel_rfl) hK fun _ => ?_
    refine wpAnyH_take (i := 0) (v := .pointer (some ⟨K, 0, none⟩)) rfl (by kernel_rfl) (by kernel_rfl) (by kernel_rfl) (fun _ _ _ h => nomatch h.1) (Or.inl ⟨by rfl, fun W9 _ => by simp only [execOp]; go_simp⟩) hK ?_
    simp only [List.getElem_toArray, List.getElem_cons_zero, List.getElem_cons_succ, Act.put, mixA, mixL, cond_true, cond_false, List.setIfInBounds_toArray, List.set_cons_zero, List.set_cons_succ]
    refine wpAnyH_take (i := 1) (v := .agg (stv s).toArray) rfl (by kernel_rfl) (by kernel_rfl) (by kernel_rfl) (fun _ _ _ h => nomatch h.1) (yieldsIf_load_mid (by rfl) 33 (.tmp 30) rfl K 0 rfl (stv s) _ yld Tryd.underlying33 rfl (by rw [sizeS, stv_len HS.out])) hK ?_
    simp only [List.getElem_toArray, List.getElem_cons_zero, List.getElem_cons_succ, Act.put, mixA, mixL, cond_true, cond_false, List.setIfInBounds_toArray, List.set_cons_zero, List.set_cons_succ]
    refine wpAnyH_take (i := 3) (v := .pointer (some ⟨K, 0, none⟩)) rfl (by kernel_rfl) (by kernel_rfl) (by kernel_rfl) (fun _ _ _ h => nomatch h.1) (Or.inl ⟨by rfl, fun W9 _ => by simp only [execOp]; go_simp⟩) hK ?_
    simp only [List.getElem_toArray, List.getElem_cons_zero, List.getElem_cons_succ, Act.put, mixA, mixL, cond_true, cond_false, List.setIfInBounds_toArray, List.set_cons_zero, List.set_cons_succ]
    refine wpAnyH_take (i := 4) (v := .agg (stv s).toArray) rfl (by kernel_rfl) (by kernel_rfl) (by kernel_rfl) (fun _ _ _ h => nomatch h.1) (yieldsIf_load_mid (by rfl) 33 (.tmp 33) rfl K 0 rfl (stv s) _ yld Tryd.underlying33 rfl (by rw [sizeS, stv_len HS.out])) hK ?_
    simp only [List.getElem_toArray, List.getElem_cons_zero, List.getElem_cons_succ, Act.put, mixA, mixL, cond_true, cond_false, List.setIfInBounds_toArray, List.set_cons_zero, List.set_cons_succ]
    refine wpAnyH_go [2, 6, 7] (by kernel_rfl) (by simp) ⟨⟨_, rfl, rfl, ?_⟩, ⟨_, rfl, rfl, ?_⟩, ⟨_, rfl, rfl, ?_⟩, trivial⟩
    · refine runs_c1 en_ownz (ev rfl) ((own_any s HS.out _).mono ?_)
      rintro e x1 ⟨rfl, gx⟩
      have hK2 := hK.grew gx
      have hg2 := hg9.trans gx
      refine ⟨_, rfl, hK2, ?_⟩
      clear gx
      clear hK hg9
      have hK := hK2
      have hg9 := hg2
      clear hK2 hg2
      simp only [List.getElem_toArray, List.getElem_cons_zero, List.getElem_cons_succ, Act.put, mixA, mixL, cond_true, cond_false, List.setIfInBounds_toArray, List.set_cons_zero, List.set_cons_succ]
      refine wpAnyH_go [5, 6, 7] (by kernel_rfl) (by simp) ⟨⟨_, rfl, rfl, ?_⟩, ⟨_, rfl, rfl, ?_⟩, ⟨_, rfl, rfl, ?_⟩, trivial⟩
      · refine runs_c1 en_ownz (ev rfl) ((own_any s HS.out _).mono ?_)
        rintro e x2 ⟨rfl, gx⟩
        have hK2 := hK.grew gx
        have hg2 := hg9.trans gx
        refine ⟨_, rfl, hK2, ?_⟩
        clear gx
        clear hK hg9
        have hK := hK2
        have hg9 := hg2
        clear hK2 hg2
        simp only [List.getElem_toArray, List.getElem_cons_zero, List.getElem_cons_succ, Act.put, mixA, mixL, cond_true, cond_false, List.setIfInBounds_toArray, List.set_cons_zero, List.set_cons_succ]
        refine wpAnyH_go [6, 7] (by kernel_rfl) (by simp) ⟨⟨_, rfl, rfl, ?_⟩, ⟨_, rfl, rfl, ?_⟩, trivial⟩
        · refine runs_alw CPT (stv zst) zeroC fun x3 hb1 gx => ?_
          have hK2 := hK.grew gx
          have hg2 := hg9.trans gx
          have hm1 : B0 ≤ x2.heap.size := Nat.le_trans (Nat.le_of_eq hBd) hg9.sz
          generalize x2.heap.size = C at hb1 hm1 ⊢
          refine ⟨hK2, ?_⟩
          clear gx
          clear hK hg9
          have hK := hK2
          have hg9 := hg2
          clear hK2 hg2
          simp only [List.getElem_toArray, List.getElem_cons_zero, List.getElem_cons_succ, Act.put, mixA, mixL, cond_true, cond_false, List.setIfInBounds_toArray, List.set_cons_zero, List.set_cons_succ]
          refine wpAnyH_go [7] (by kernel_rfl) (by simp) ⟨⟨_, rfl, rfl, ?_⟩, trivial⟩
          refine runs_alw CPT (stv zst) zeroC fun x4 hb2 gx => ?_
          have hK2 := hK.grew gx
          have hg2 := hg9.trans gx
          have hm2 : B0 ≤ x3.heap.size := Nat.le_trans (Nat.le_of_eq hBd) hg9.sz
          have hqq : C ≠ x3.heap.size := by have := hb1.lt; omega
          replace hb1 := hb1.grew gx
          generalize x3.heap.size = D at hb2 hm2 hqq ⊢
          refine ⟨hK2, ?_⟩
          clear gx
          clear hK hg9
          have hK := hK2
          have hg9 := hg2
          clear hK2 hg2
          simp only [List.getElem_toArray, List.getElem_cons_zero, List.getElem_cons_succ, Act.put, mixA, mixL, cond_true, cond_false, List.setIfInBounds_toArray, List.set_cons_zero, List.set_cons_succ]
          refine wpAnyH_go [8] (by kernel_rfl) (by simp) ⟨⟨_, rfl, rfl, ?_⟩, trivial⟩
          refine runs_stw CPT (us := stv s) (ev rfl) (ev rfl) hb1 (by rw [stv_len HS.out, stv_len zst_ok]) (by rw [sizeC, stv_len HS.out]) (stv_one s) fun x5 hbx cx => ?_
          have hK2 := hK.chg cx (fun e => by have h1 := hK.ne hb1 (by decide); exact h1 e)
          have hg2 : Grew V2.drew x5 := grew_lift hg9 cx fun k hk => by have e : k = C := hk; omega
          replace hb2 := hb2.chg cx (fun e => hqq e.symm)
          replace hb1 := hbx
          refine ⟨hK2, ?_⟩
          clear cx hbx
          clear hK hg9
          have hK := hK2
          have hg9 := hg2
          clear hK2 hg2
          simp only [List.getElem_toArray, List.getElem_cons_zero, List.getElem_cons_succ, Act.put, mixA, mixL, cond_true, cond_false, List.setIfInBounds_toArray, List.set_cons_zero, List.set_cons_succ]
          refine wpAnyH_go [9] (by kernel_rfl) (by simp) ⟨⟨_, rfl, rfl, ?_⟩, trivial⟩
          refine runs_stw CPT (us := stv s) (ev rfl) (ev rfl) hb2 (by rw [stv_len HS.out, stv_len zst_ok]) (by rw [sizeC, stv_len HS.out]) (stv_one s) fun x6 hbx cx => ?_
          have hK2 := hK.chg cx (fun e => by have h1 := hK.ne hb2 (by decide); exact h1 e)
          have hg2 : Grew V2.drew x6 := grew_lift hg9 cx fun k hk => by have e : k = D := hk; omega
          replace hb1 := hb1.chg cx (fun e => hqq e)
          replace hb2 := hbx
          refine ⟨hK2, ?_⟩
          clear cx hbx
          clear hK hg9
          have hK := hK2
          have hg9 := hg2
          clear hK2 hg2
          simp only [List.getElem_toArray, List.getElem_cons_zero, List.getElem_cons_succ, Act.put, mixA, mixL, cond_true, cond_false, List.setIfInBounds_toArray, List.set_cons_zero, List.set_cons_succ]
          refine wpAnyH_done (by kernel_rfl) ?_ _
          exact ⟨rfl, C, D, by kernel_rfl, hb1, hb2, hqq, hB0 ▸ hm1, hB0 ▸ hm2, hgd.trans hg9⟩
        · refine runs_alw CPT (stv zst) zeroC fun x7 hb2 gx => ?_
          have hK2 := hK.grew gx
          have hg2 := hg9.trans gx
          have hm2 : B0 ≤ x2.heap.size := Nat.le_trans (Nat.le_of_eq hBd) hg9.sz
          generalize x2.heap.size = D at hb2 hm2 ⊢
          refine ⟨hK2, ?_⟩
          clear gx
          clear hK hg9
          have hK := hK2
          have hg9 := hg2
          clear hK2 hg2
          simp only [List.getElem_toArray, List.getElem_cons_zero, List.getElem_cons_succ, Act.put, mixA, mixL, cond_true, cond_false, List.setIfInBounds_toArray, List.set_cons_zero, List.set_cons_succ]
          refine wpAnyH_go [6] (by kernel_rfl) (by simp) ⟨⟨_, rfl, rfl, ?_⟩, trivial⟩
          refine runs_alw CPT (stv zst) zeroC fun x8 hb1 gx => ?_
          have hK2 := hK.grew gx
          have hg2 := hg9.trans gx
          have hm1 : B0 ≤ x7.heap.size := Nat.le_trans (Nat.le_of_eq hBd) hg9.sz
          have hqq : D ≠ x7.heap.size := by have := hb2.lt; omega
          replace hb2 := hb2.grew gx
          have hqq := hqq.symm
          generalize x7.heap.size = C at hb1 hm1 hqq ⊢
          refine ⟨hK2, ?_⟩
          clear gx
          clear hK hg9
          have hK := hK2
          have hg9 := hg2
          clear hK2 hg2
          simp only [List.getElem_toArray, List.getElem_cons_zero, List.getElem_cons_succ, Act.put, mixA, mixL, cond_true, cond_false, List.setIfInBounds_toArray, List.set_cons_zero, List.set_cons_succ]
          refine wpAnyH_go [8] (by kernel_rfl) (by simp) ⟨⟨_, rfl, rfl, ?_⟩, trivial⟩
          refine runs_stw CPT (us := stv s) (ev rfl) (ev rfl) hb1 (by rw [stv_len HS.out, stv_len zst_ok]) (by rw [sizeC, stv_len HS.out]) (stv_one s) fun x9 hbx cx => ?_
          have hK2 := hK.chg cx (fun e => by have h1 := hK.ne hb1 (by decide); exact h1 e)
          have hg2 : Grew V2.drew x9 := grew_lift hg9 cx fun k hk => by have e : k = C := hk; omega
          replace hb2 := hb2.chg cx (fun e => hqq e.symm)
          replace hb1 := hbx
          refine ⟨hK2, ?_⟩
          clear cx hbx
          clear hK hg9
          have hK := hK2
          have hg9 := hg2
          clear hK2 hg2
          simp only [List.getElem_toArray, List.getElem_cons_zero, List.getElem_cons_succ, Act.put, mixA, mixL, cond_true, cond_false, List.setIfInBounds_toArray, List.set_cons_zero, List.set_cons_succ]
          refine wpAnyH_go [9] (by kernel_rfl) (by simp) ⟨⟨_, rfl, rfl, ?_⟩, trivial⟩
          refine runs_stw CPT (us := stv s) (ev rfl) (ev rfl) hb2 (by rw [stv_len HS.out, stv_len zst_ok]) (by rw [sizeC, stv_len HS.out]) (stv_one s) fun x10 hbx cx => ?_
          have hK2 := hK.chg cx (fun e => by have h1 := hK.ne hb2 (by decide); exact h1 e)
          have hg2 : Grew V2.drew x10 := grew_lift hg9 cx fun k hk => by have e : k = D := hk; omega
          replace hb1 := hb1.chg cx (fun e => hqq e)
          replace hb2 := hbx
          refine ⟨hK2, ?_⟩
          clear cx hbx
          clear hK hg9
          have hK := hK2
          have hg9 := hg2
          clear hK2 hg2
          simp only [List.getElem_toArray, List.getElem_cons_zero, List.getElem_cons_succ, Act.put, mixA, mixL, cond_true, cond_false, List.setIfInBounds_toArray, List.set_cons_zero, List.set_cons_succ]
          refine wpAnyH_done (by kernel_rfl) ?_ _
          exact ⟨rfl, C, D, by kernel_rfl, hb1, hb2, hqq, hB0 ▸ hm1, hB0 ▸ hm2, hgd.trans hg9⟩
      · refine runs_alw CPT (stv zst) zeroC fun x11 hb1 gx => ?_
        have hK2 := hK.grew gx
        have hg2 := hg9.trans gx
        have hm1 : B0 ≤ x1.heap.size := Nat.le_trans (Nat.le_of_eq hBd) hg9.sz
        generalize x1.heap.size = C at hb1 hm1 ⊢
        refine ⟨hK2, ?_⟩
        clear gx
        clear hK hg9
        have hK := hK2
        have hg9 := hg2
        clear hK2 hg2
        simp only [List.getElem_toArray, List.getElem_cons_zero, List.getElem_cons_succ, Act.put, mixA, mixL, cond_true, cond_false, List.setIfInBounds_toArray, List.set_cons_zero, List.set_cons_succ]
        refine wpAnyH_go [5, 7] (by kernel_rfl) (by simp) ⟨⟨_, rfl, rfl, ?_⟩, ⟨_, rfl, rfl, ?_⟩, trivial⟩
        · refine runs_c1 en_ownz (ev rfl) ((own_any s HS.out _).mono ?_)
          rintro e x12 ⟨rfl, gx⟩
          have hK2 := hK.grew gx
          have hg2 := hg9.trans gx
          replace hb1 := hb1.grew gx
          refine ⟨_, rfl, hK2, ?_⟩
          clear gx
          clear hK hg9
          have hK := hK2
          have hg9 := hg2
          clear hK2 hg2
          simp only [List.getElem_toArray, List.getElem_cons_zero, List.getElem_cons_succ, Act.put, mixA, mixL, cond_true, cond_false, List.setIfInBounds_toArray, List.set_cons_zero, List.set_cons_succ]
          refine wpAnyH_go [7] (by kernel_rfl) (by simp) ⟨⟨_, rfl, rfl, ?_⟩, trivial⟩
          refine runs_alw CPT (stv zst) zeroC fun x13 hb2 gx => ?_
          have hK2 := hK.grew gx
          have hg2 := hg9.trans gx
          have hm2 : B0 ≤ x12.heap.size := Nat.le_trans (Nat.le_of_eq hBd) hg9.sz
          have hqq : C ≠ x12.heap.size := by have := hb1.lt; omega
          replace hb1 := hb1.grew gx
          generalize x12.heap.size = D at hb2 hm2 hqq ⊢
          refine ⟨hK2, ?_⟩
          clear gx
          clear hK hg9
          have hK := hK2
          have hg9 := hg2
          clear hK2 hg2
          simp only [List.getElem_toArray, List.getElem_cons_zero, List.getElem_cons_succ, Act.put, mixA, mixL, cond_true, cond_false, List.setIfInBounds_toArray, List.set_cons_zero, List.set_cons_succ]
          refine wpAnyH_go [8] (by kernel_rfl) (by simp) ⟨⟨_, rfl, rfl, ?_⟩, trivial⟩
          refine runs_stw CPT (us := stv s) (ev rfl) (ev rfl) hb1 (by rw [stv_len HS.out, stv_len zst_ok]) (by rw [sizeC, stv_len HS.out]) (stv_one s) fun x14 hbx cx => ?_
          have hK2 := hK.chg cx (fun e => by have h1 := hK.ne hb1 (by decide); exact h1 e)
          have hg2 : Grew V2.drew x14 := grew_lift hg9 cx fun k hk => by have e : k = C := hk; omega
          replace hb2 := hb2.chg cx (fun e => hqq e.symm)
          replace hb1 := hbx
          refine ⟨hK2, ?_⟩
          clear cx hbx
          clear hK hg9
          have hK := hK2
          have hg9 := hg2
          clear hK2 hg2
          simp only [List.getElem_toArray, List.getElem_cons_zero, List.getElem_cons_succ, Act.put, mixA, mixL, cond_true, cond_false, List.setIfInBounds_toArray, List.set_cons_zero, List.set_cons_succ]
          refine wpAnyH_go [9] (by kernel_rfl) (by simp) ⟨⟨_, rfl, rfl, ?_⟩, trivial⟩
          refine runs_stw CPT (us := stv s) (ev rfl) (ev rfl) hb2 (by rw [stv_len HS.out, stv_len zst_ok]) (by rw [sizeC, stv_len HS.out]) (stv_one s) fun x15 hbx cx => ?_
          have hK2 := hK.chg cx (fun e => by have h1 := hK.ne hb2 (by decide); exact h1 e)
          have hg2 : Grew V2.drew x15 := grew_lift hg9 cx fun k hk => by have e : k = D := hk; omega
          replace hb1 := hb1.chg cx (fun e => hqq e)
          replace hb2 := hbx
          refine ⟨hK2, ?_⟩
          clear cx hbx
          clear hK hg9
          have hK := hK2
          have hg9 := hg2
          clear hK2 hg2
          simp only [List.getElem_toArray, List.getElem_cons_zero, List.getElem_cons_succ, Act.put, mixA, mixL, cond_true, cond_false, List.setIfInBounds_toArray, List.set_cons_zero, List.set_cons_succ]
          refine wpAnyH_done (by kernel_rfl) ?_ _
          exact ⟨rfl, C, D, by kernel_rfl, hb1, hb2, hqq, hB0 ▸ hm1, hB0 ▸ hm2, hgd.trans hg9⟩
        · refine runs_alw CPT (stv zst) zeroC fun x16 hb2 gx => ?_
          have hK2 := hK.grew gx
          have hg2 := hg9.trans gx
          have hm2 : B0 ≤ x11.heap.size := Nat.le_trans (Nat.le_of_eq hBd) hg9.sz
          have hqq : C ≠ x11.heap.size := by have := hb1.lt; omega
          replace hb1 := hb1.grew gx
          generalize x11.heap.size = D at hb2 hm2 hqq ⊢
          refine ⟨hK2, ?_⟩
          clear gx
          clear hK hg9
          have hK := hK2
          have hg9 := hg2
          clear hK2 hg2
          simp only [List.getElem_toArray, List.getElem_cons_zero, List.getElem_cons_succ, Act.put, mixA, mixL, cond_true, cond_false, List.setIfInBounds_toArray, List.set_cons_zero, List.set_cons_succ]
          refine wpAnyH_go [5] (by kernel_rfl) (by simp) ⟨⟨_, rfl, rfl, ?_⟩, trivial⟩
          refine runs_c1 en_ownz (ev rfl) ((own_any s HS.out _).mono ?_)
          rintro e x17 ⟨rfl, gx⟩
          have hK2 := hK.grew gx
          have hg2 := hg9.trans gx
          replace hb1 := hb1.grew gx
          replace hb2 := hb2.grew gx
          refine ⟨_, rfl, hK2, ?_⟩
          clear gx
          clear hK hg9
          have hK := hK2
          have hg9 := hg2
          clear hK2 hg2
          simp only [List.getElem_toArray, List.getElem_cons_zero, List.getElem_cons_succ, Act.put, mixA, mixL, cond_true, cond_false, List.setIfInBounds_toArray, List.set_cons_zero, List.set_cons_succ]
          refine wpAnyH_go [8] (by kernel_rfl) (by simp) ⟨⟨_, rfl, rfl, ?_⟩, trivial⟩
          refine runs_stw CPT (us := stv s) (ev rfl) (ev rfl) hb1 (by rw [stv_len HS.out, stv_len zst_ok]) (by rw [sizeC, stv_len HS.out]) (stv_one s) fun x18 hbx cx => ?_
          have hK2 := hK.chg cx (fun e => by have h1 := hK.ne hb1 (by decide); exact h1 e)
          have hg2 : Grew V2.drew x18 := grew_lift hg9 cx fun k hk => by have e : k = C := hk; omega
          replace hb2 := hb2.chg cx (fun e => hqq e.symm)
          replace hb1 := hbx
          refine ⟨hK2, ?_⟩
          clear cx hbx
          clear hK hg9
          have hK := hK2
          have hg9 := hg2
          clear hK2 hg2
          simp only [List.getElem_toArray, List.getElem_cons_zero, List.getElem_cons_succ, Act.put, mixA, mixL, cond_true, cond_false, List.setIfInBounds_toArray, List.set_cons_zero, List.set_cons_succ]
          refine wpAnyH_go [9] (by kernel_rfl) (by simp) ⟨⟨_, rfl, rfl, ?_⟩, trivial⟩
          refine runs_stw CPT (us := stv s) (ev rfl) (ev rfl) hb2 (by rw [stv_len HS.out, stv_len zst_ok]) (by rw [sizeC, stv_len HS.out]) (stv_one s) fun x19 hbx cx => ?_
          have hK2 := hK.chg cx (fun e => by have h1 := hK.ne hb2 (by decide); exact h1 e)
          have hg2 : Grew V2.drew x19 := grew_lift hg9 cx fun k hk => by have e : k = D := hk; omega
          replace hb1 := hb1.chg cx (fun e => hqq e)
          replace hb2 := hbx
          refine ⟨hK2, ?_⟩
          clear cx hbx
          clear hK hg9
          have hK := hK2
          have hg9 := hg2
          clear hK2 hg2
          simp only [List.getElem_toArray, List.getElem_cons_zero, List.getElem_cons_succ, Act.put, mixA, mixL, cond_true, cond_false, List.setIfInBounds_toArray, List.set_cons_zero, List.set_cons_succ]
          refine wpAnyH_done (by kernel_rfl) ?_ _
          exact ⟨rfl, C, D, by kernel_rfl, hb1, hb2, hqq, hB0 ▸ hm1, hB0 ▸ hm2, hgd.trans hg9⟩
      · refine runs_alw CPT (stv zst) zeroC fun x20 hb2 gx => ?_
        have hK2 := hK.grew gx
        have hg2 := hg9.trans gx
        have hm2 : B0 ≤ x1.heap.size := Nat.le_trans (Nat.le_of_eq hBd) hg9.sz
        generalize x1.heap.size = D at hb2 hm2 ⊢
        refine ⟨hK2, ?_⟩
        clear gx
        clear hK hg9
        have hK := hK2
        have hg9 := hg2
        clear hK2 hg2
        simp only [List.getElem_toArray, List.getElem_cons_zero, List.getElem_cons_succ, Act.put, mixA, mixL, cond_true, cond_false, List.setIfInBounds_toArray, List.set_cons_zero, List.set_cons_succ]
        refine wpAnyH_go [5, 6] (by kernel_rfl) (by simp) ⟨⟨_, rfl, rfl, ?_⟩, ⟨_, rfl, rfl, ?_⟩, trivial⟩
        · refine runs_c1 en_ownz (ev rfl) ((own_any s HS.out _).mono ?_)
          rintro e x21 ⟨rfl, gx⟩
          have hK2 := hK.grew gx
          have hg2 := hg9.trans gx
          replace hb2 := hb2.grew gx
          refine ⟨_, rfl, hK2, ?_⟩
          clear gx
          clear hK hg9
          have hK := hK2
          have hg9 := hg2
          clear hK2 hg2
          simp only [List.getElem_toArray, List.getElem_cons_zero, List.getElem_cons_succ, Act.put, mixA, mixL, cond_true, cond_false, List.setIfInBounds_toArray, List.set_cons_zero, List.set_cons_succ]
          refine wpAnyH_go [6] (by kernel_rfl) (by simp) ⟨⟨_, rfl, rfl, ?_⟩, trivial⟩
          refine runs_alw CPT (stv zst) zeroC fun x22 hb1 gx => ?_
          have hK2 := hK.grew gx
          have hg2 := hg9.trans gx
          have hm1 : B0 ≤ x21.heap.size := Nat.le_trans (Nat.le_of_eq hBd) hg9.sz
          have hqq : D ≠ x21.heap.size := by have := hb2.lt; omega
          replace hb2 := hb2.grew gx
          have hqq := hqq.symm
          generalize x21.heap.size = C at hb1 hm1 hqq ⊢
          refine ⟨hK2, ?_⟩
          clear gx
          clear hK hg9
          have hK := hK2
          have hg9 := hg2
          clear hK2 hg2
          simp only [List.getElem_toArray, List.getElem_cons_zero, List.getElem_cons_succ, Act.put, mixA, mixL, cond_true, cond_false, List.setIfInBounds_toArray, List.set_cons_zero, List.set_cons_succ]
          refine wpAnyH_go [8] (by kernel_rfl) (by simp) ⟨⟨_, rfl, rfl, ?_⟩, trivial⟩
          refine runs_stw CPT (us := stv s) (ev rfl) (ev rfl) hb1 (by rw [stv_len HS.out, stv_len zst_ok]) (by rw [sizeC, stv_len HS.out]) (stv_one s) fun x23 hbx cx => ?_
          have hK2 := hK.chg cx (fun e => by have h1 := hK.ne hb1 (by decide); exact h1 e)
          have hg2 : Grew V2.drew x23 := grew_lift hg9 cx fun k hk => by have e : k = C := hk; omega
          replace hb2 := hb2.chg cx (fun e => hqq e.symm)
          replace hb1 := hbx
          refine ⟨hK2, ?_⟩
          clear cx hbx
          clear hK hg9
          have hK := hK2
          have hg9 := hg2
          clear hK2 hg2
          simp only [List.getElem_toArray, List.getElem_cons_zero, List.getElem_cons_succ, Act.put, mixA, mixL, cond_true, cond_false, List.setIfInBounds_toArray, List.set_cons_zero, List.set_cons_succ]
          refine wpAnyH_go [9] (by kernel_rfl) (by simp) ⟨⟨_, rfl, rfl, ?_⟩, trivial⟩
          refine runs_stw CPT (us := stv s) (ev rfl) (ev rfl) hb2 (by rw [stv_len HS.out, stv_len zst_ok]) (by rw [sizeC, stv_len HS.out]) (stv_one s) fun x24 hbx cx => ?_
          have hK2 := hK.chg cx (fun e => by have h1 := hK.ne hb2 (by decide); exact h1 e)
          have hg2 : Grew V2.drew x24 := grew_lift hg9 cx fun k hk => by have e : k = D := hk; omega
          replace hb1 := hb1.chg cx (fun e => hqq e)
          replace hb2 := hbx
          refine ⟨hK2, ?_⟩
          clear cx hbx
          clear hK hg9
          have hK := hK2
          have hg9 := hg2
          clear hK2 hg2
          simp only [List.getElem_toArray, List.getElem_cons_zero, List.getElem_cons_succ, Act.put, mixA, mixL, cond_true, cond_false, List.setIfInBounds_toArray, List.set_cons_zero, List.set_cons_succ]
          refine wpAnyH_done (by kernel_rfl) ?_ _
          exact ⟨rfl, C, D, by kernel_rfl, hb1, hb2, hqq, hB0 ▸ hm1, hB0 ▸ hm2, hgd.trans hg9⟩
        · refine runs_alw CPT (stv zst) zeroC fun x25 hb1 gx => ?_
          have hK2 := hK.grew gx
          have hg2 := hg9.trans gx
          have hm1 : B0 ≤ x20.heap.size := Nat.le_trans (Nat.le_of_eq hBd) hg9.sz
          have hqq : D ≠ x20.heap.size := by have := hb2.lt; omega
          replace hb2 := hb2.grew gx
          have hqq := hqq.symm
          generalize x20.heap.size = C at hb1 hm1 hqq ⊢
          refine ⟨hK2, ?_⟩
          clear gx
          clear hK hg9
          have hK := hK2
          have hg9 := hg2
          clear hK2 hg2
          simp only [List.getElem_toArray, List.getElem_cons_zero, List.getElem_cons_succ, Act.put, mixA, mixL, cond_true, cond_false, List.setIfInBounds_toArray, List.set_cons_zero, List.set_cons_succ]
          refine wpAnyH_go [5] (by kernel_rfl) (by simp) ⟨⟨_, rfl, rfl, ?_⟩, trivial⟩
          refine runs_c1 en_ownz (ev rfl) ((own_any s HS.out _).mono ?_)
          rintro e x26 ⟨rfl, gx⟩
          have hK2 := hK.grew gx
          have hg2 := hg9.trans gx
          replace hb1 := hb1.grew gx
          replace hb2 := hb2.grew gx
          refine ⟨_, rfl, hK2, ?_⟩
          clear gx
          clear hK hg9
          have hK := hK2
          have hg9 := hg2
          clear hK2 hg2
          simp only [List.getElem_toArray, List.getElem_cons_zero, List.getElem_cons_succ, Act.put, mixA, mixL, cond_true, cond_false, List.setIfInBounds_toArray, List.set_cons_zero, List.set_cons_succ]
          refine wpAnyH_go [8] (by kernel_rfl) (by simp) ⟨⟨_, rfl, rfl, ?_⟩, trivial⟩
          refine runs_stw CPT (us := stv s) (ev rfl) (ev rfl) hb1 (by rw [stv_len HS.out, stv_len zst_ok]) (by rw [sizeC, stv_len HS.out]) (stv_one s) fun x27 hbx cx => ?_
          have hK2 := hK.chg cx (fun e => by have h1 := hK.ne hb1 (by decide); exact h1 e)
          have hg2 : Grew V2.drew x27 := grew_lift hg9 cx fun k hk => by have e : k = C := hk; omega
          replace hb2 := hb2.chg cx (fun e => hqq e.symm)
          replace hb1 := hbx
          refine ⟨hK2, ?_⟩
          clear cx hbx
          clear hK hg9
          have hK := hK2
          have hg9 := hg2
          clear hK2 hg2
          simp only [List.getElem_toArray, List.getElem_cons_zero, List.getElem_cons_succ, Act.put, mixA, mixL, cond_true, cond_false, List.setIfInBounds_toArray, List.set_cons_zero, List.set_cons_succ]
          refine wpAnyH_go [9] (by kernel_rfl) (by simp) ⟨⟨_, rfl, rfl, ?_⟩, trivial⟩
          refine runs_stw CPT (us := stv s) (ev rfl) (ev rfl) hb2 (by rw [stv_len HS.out, stv_len zst_ok]) (by rw [sizeC, stv_len HS.out]) (stv_one s) fun x28 hbx cx => ?_
          have hK2 := hK.chg cx (fun e => by have h1 := hK.ne hb2 (by decide); exact h1 e)
          have hg2 : Grew V2.drew x28 := grew_lift hg9 cx fun k hk => by have e : k = D := hk; omega
          replace hb1 := hb1.chg cx (fun e => hqq e)
          replace hb2 := hbx
          refine ⟨hK2, ?_⟩
          clear cx hbx
          clear hK hg9
          have hK := hK2
          have hg9 := hg2
          clear hK2 hg2
          simp only [List.getElem_toArray, List.getElem_cons_zero, List.getElem_cons_succ, Act.put, mixA, mixL, cond_true, cond_false, List.setIfInBounds_toArray, List.set_cons_zero, List.set_cons_succ]
          refine wpAnyH_done (by kernel_rfl) ?_ _
          exact ⟨rfl, C, D, by kernel_rfl, hb1, hb2, hqq, hB0 ▸ hm1, hB0 ▸ hm2, hgd.trans hg9⟩
    · refine runs_alw CPT (stv zst) zeroC fun x29 hb1 gx => ?_
      have hK2 := hK.grew gx
      have hg2 := hg9.trans gx
      have hm1 : B0 ≤ V2.drew.heap.size := Nat.le_trans (Nat.le_of_eq hBd) hg9.sz
      generalize V2.drew.heap.size = C at hb1 hm1 ⊢
      refine ⟨hK2, ?_⟩
      clear gx
      clear hK hg9
      have hK := hK2
      have hg9 := hg2
      clear hK2 hg2
      simp only [List.getElem_toArray, List.getElem_cons_zero, List.getElem_cons_succ, Act.put, mixA, mixL, cond_true, cond_false, List.setIfInBounds_toArray, List.set_cons_zero, List.set_cons_succ]
      refine wpAnyH_go [2, 7] (by kernel_rfl) (by simp) ⟨⟨_, rfl, rfl, ?_⟩, ⟨_, rfl, rfl, ?_⟩, trivial⟩
      · refine runs_c1 en_ownz (ev rfl) ((own_any s HS.out _).mono ?_)
        rintro e x30 ⟨rfl, gx⟩
        have hK2 := hK.grew gx
        have hg2 := hg9.trans gx
        replace hb1 := hb1.grew gx
        refine ⟨_, rfl, hK2, ?_⟩
        clear gx
        clear hK hg9
        have hK := hK2
        have hg9 := hg2
        clear hK2 hg2
        simp only [List.getElem_toArray, List.getElem_cons_zero, List.getElem_cons_succ, Act.put, mixA, mixL, cond_true, cond_false, List.setIfInBounds_toArray, List.set_cons_zero, List.set_cons_succ]
        refine wpAnyH_go [5, 7] (by kernel_rfl) (by simp) ⟨⟨_, rfl, rfl, ?_⟩, ⟨_, rfl, rfl, ?_⟩, trivial⟩
        · refine runs_c1 en_ownz (ev rfl) ((own_any s HS.out _).mono ?_)
          rintro e x31 ⟨rfl, gx⟩
          have hK2 := hK.grew gx
          have hg2 := hg9.trans gx
          replace hb1 := hb1.grew gx
          refine ⟨_, rfl, hK2, ?_⟩
          clear gx
          clear hK hg9
          have hK := hK2
          have hg9 := hg2
          clear hK2 hg2
          simp only [List.getElem_toArray, List.getElem_cons_zero, List.getElem_cons_succ, Act.put, mixA, mixL, cond_true, cond_false, List.setIfInBounds_toArray, List.set_cons_zero, List.set_cons_succ]
          refine wpAnyH_go [7] (by kernel_rfl) (by simp) ⟨⟨_, rfl, rfl, ?_⟩, trivial⟩
          refine runs_alw CPT (stv zst) zeroC fun x32 hb2 gx => ?_
          have hK2 := hK.grew gx
          have hg2 := hg9.trans gx
          have hm2 : B0 ≤ x31.heap.size := Nat.le_trans (Nat.le_of_eq hBd) hg9.sz
          have hqq : C ≠ x31.heap.size := by have := hb1.lt; omega
          replace hb1 := hb1.grew gx
          generalize x31.heap.size = D at hb2 hm2 hqq ⊢
          refine ⟨hK2, ?_⟩
          clear gx
          clear hK hg9
          have hK := hK2
          have hg9 := hg2
          clear hK2 hg2
          simp only [List.getElem_toArray, List.getElem_cons_zero, List.getElem_cons_succ, Act.put, mixA, mixL, cond_true, cond_false, List.setIfInBounds_toArray, List.set_cons_zero, List.set_cons_succ]
          refine wpAnyH_go [8] (by kernel_rfl) (by simp) ⟨⟨_, rfl, rfl, ?_⟩, trivial⟩
          refine runs_stw CPT (us := stv s) (ev rfl) (ev rfl) hb1 (by rw [stv_len HS.out, stv_len zst_ok]) (by rw [sizeC, stv_len HS.out]) (stv_one s) fun x33 hbx cx => ?_
          have hK2 := hK.chg cx (fun e => by have h1 := hK.ne hb1 (by decide); exact h1 e)
          have hg2 : Grew V2.drew x33 := grew_lift hg9 cx fun k hk => by have e : k = C := hk; omega
          replace hb2 := hb2.chg cx (fun e => hqq e.symm)
          replace hb1 := hbx
          refine ⟨hK2, ?_⟩
          clear cx hbx
          clear hK hg9
          have hK := hK2
          have hg9 := hg2
          clear hK2 hg2
          simp only [List.getElem_toArray, List.getElem_cons_zero, List.getElem_cons_succ, Act.put, mixA, mixL, cond_true, cond_false, List.setIfInBounds_toArray, List.set_cons_zero, List.set_cons_succ]
          refine wpAnyH_go [9] (by kernel_rfl) (by simp) ⟨⟨_, rfl, rfl, ?_⟩, trivial⟩
          refine runs_stw CPT (us := stv s) (ev rfl) (ev rfl) hb2 (by rw [stv_len HS.out, stv_len zst_ok]) (by rw [sizeC, stv_len HS.out]) (stv_one s) fun x34 hbx cx => ?_
          have hK2 := hK.chg cx (fun e => by have h1 := hK.ne hb2 (by decide); exact h1 e)
          have hg2 : Grew V2.drew x34 := grew_lift hg9 cx fun k hk => by have e : k = D := hk; omega
          replace hb1 := hb1.chg cx (fun e => hqq e)
          replace hb2 := hbx
          refine ⟨hK2, ?_⟩
          clear cx hbx
          clear hK hg9
          have hK := hK2
          have hg9 := hg2
          clear hK2 hg2
          simp only [List.getElem_toArray, List.getElem_cons_zero, List.getElem_cons_succ, Act.put, mixA, mixL, cond_true, cond_false, List.setIfInBounds_toArray, List.set_cons_zero, List.set_cons_succ]
          refine wpAnyH_done (by kernel_rfl) ?_ _
          exact ⟨rfl, C, D, by kernel_rfl, hb1, hb2, hqq, hB0 ▸ hm1, hB0 ▸ hm2, hgd.trans hg9⟩
        · refine runs_alw CPT (stv zst) zeroC fun x35 hb2 gx => ?_
          have hK2 := hK.grew gx
          have hg2 := hg9.trans gx
          have hm2 : B0 ≤ x30.heap.size := Nat.le_trans (Nat.le_of_eq hBd) hg9.sz
          have hqq : C ≠ x30.heap.size := by have := hb1.lt; omega
          replace hb1 := hb1.grew gx
          generalize x30.heap.size = D at hb2 hm2 hqq ⊢
          refine ⟨hK2, ?_⟩
          clear gx
          clear hK hg9
          have hK := hK2
          have hg9 := hg2
          clear hK2 hg2
          simp only [List.getElem_toArray, List.getElem_cons_zero, List.getElem_cons_succ, Act.put, mixA, mixL, cond_true, cond_false, List.setIfInBounds_toArray, List.set_cons_zero, List.set_cons_succ]
          refine wpAnyH_go [5] (by kernel_rfl) (by simp) ⟨⟨_, rfl, rfl, ?_⟩, trivial⟩
          refine runs_c1 en_ownz (ev rfl) ((own_any s HS.out _).mono ?_)
          rintro e x36 ⟨rfl, gx⟩
          have hK2 := hK.grew gx
          have hg2 := hg9.trans gx
          replace hb1 := hb1.grew gx
          replace hb2 := hb2.grew gx
          refine ⟨_, rfl, hK2, ?_⟩
          clear gx
          clear hK hg9
          have hK := hK2
          have hg9 := hg2
          clear hK2 hg2
          simp only [List.getElem_toArray, List.getElem_cons_zero, List.getElem_cons_succ, Act.put, mixA, mixL, cond_true, cond_false, List.setIfInBounds_toArray, List.set_cons_zero, List.set_cons_succ]
          refine wpAnyH_go [8] (by kernel_rfl) (by simp) ⟨⟨_, rfl, rfl, ?_⟩, trivial⟩
          refine runs_stw CPT (us := stv s) (ev rfl) (ev rfl) hb1 (by rw [stv_len HS.out, stv_len zst_ok]) (by rw [sizeC, stv_len HS.out]) (stv_one s) fun x37 hbx cx => ?_
          have hK2 := hK.chg cx (fun e => by have h1 := hK.ne hb1 (by decide); exact h1 e)
          have hg2 : Grew V2.drew x37 := grew_lift hg9 cx fun k hk => by have e : k = C := hk; omega
          replace hb2 := hb2.chg cx (fun e => hqq e.symm)
          replace hb1 := hbx
          refine ⟨hK2, ?_⟩
          clear cx hbx
          clear hK hg9
          have hK := hK2
          have hg9 := hg2
          clear hK2 hg2
          simp only [List.getElem_toArray, List.getElem_cons_zero, List.getElem_cons_succ, Act.put, mixA, mixL, cond_true, cond_false, List.setIfInBounds_toArray, List.set_cons_zero, List.set_cons_succ]
          refine wpAnyH_go [9] (by kernel_rfl) (by simp) ⟨⟨_, rfl, rfl, ?_⟩, trivial⟩
          refine runs_stw CPT (us := stv s) (ev rfl) (ev rfl) hb2 (by rw [stv_len HS.out, stv_len zst_ok]) (by rw [sizeC, stv_len HS.out]) (stv_one s) fun x38 hbx cx => ?_
          have hK2 := hK.chg cx (fun e => by have h1 := hK.ne hb2 (by decide); exact h1 e)
          have hg2 : Grew V2.drew x38 := grew_lift hg9 cx fun k hk => by have e : k = D := hk; omega
          replace hb1 := hb1.chg cx (fun e => hqq e)
          replace hb2 := hbx
          refine ⟨hK2, ?_⟩
          clear cx hbx
          clear hK hg9
          have hK := hK2
          have hg9 := hg2
          clear hK2 hg2
          simp only [List.getElem_toArray, List.getElem_cons_zero, List.getElem_cons_succ, Act.put, mixA, mixL, cond_true, cond_false, List.setIfInBounds_toArray, List.set_cons_zero, List.set_cons_succ]
          refine wpAnyH_done (by kernel_rfl) ?_ _
          exact ⟨rfl, C, D, by kernel_rfl, hb1, hb2, hqq, hB0 ▸ hm1, hB0 ▸ hm2, hgd.trans hg9⟩
      · refine runs_alw CPT (stv zst) zeroC fun x39 hb2 gx => ?_
        have hK2 := hK.grew gx
        have hg2 := hg9.trans gx
        have hm2 : B0 ≤ x29.heap.size := Nat.le_trans (Nat.le_of_eq hBd) hg9.sz
        have hqq : C ≠ x29.heap.size := by have := hb1.lt; omega
        replace hb1 := hb1.grew gx
        generalize x29.heap.size = D at hb2 hm2 hqq ⊢
        refine ⟨hK2, ?_⟩
        clear gx
        clear hK hg9
        have hK := hK2
        have hg9 := hg2
        clear hK2 hg2
        simp only [List.getElem_toArray, List.getElem_cons_zero, List.getElem_cons_succ, Act.put, mixA, mixL, cond_true, cond_false, List.setIfInBounds_toArray, List.set_cons_zero, List.set_cons_succ]
        refine wpAnyH_go [2] (by kernel_rfl) (by simp) ⟨⟨_, rfl, rfl, ?_⟩, trivial⟩
        refine runs_c1 en_ownz (ev rfl) ((own_any s HS.out _).mono ?_)
        rintro e x40 ⟨rfl, gx⟩
        have hK2 := hK.grew gx
        have hg2 := hg9.trans gx
        replace hb1 := hb1.grew gx
        replace hb2 := hb2.grew gx
        refine ⟨_, rfl, hK2, ?_⟩
        clear gx
        clear hK hg9
        have hK := hK2
        have hg9 := hg2
        clear hK2 hg2
        simp only [List.getElem_toArray, List.getElem_cons_zero, List.getElem_cons_succ, Act.put, mixA, mixL, cond_true, cond_false, List.setIfInBounds_toArray, List.set_cons_zero, List.set_cons_succ]
        refine wpAnyH_go [5] (by kernel_rfl) (by simp) ⟨⟨_, rfl, rfl, ?_⟩, trivial⟩
        refine runs_c1 en_ownz (ev rfl) ((own_any s HS.out _).mono ?_)
        rintro e x41 ⟨rfl, gx⟩
        have hK2 := hK.grew gx
        have hg2 := hg9.trans gx
        replace hb1 := hb1.grew gx
        replace hb2 := hb2.grew gx
        refine ⟨_, rfl, hK2, ?_⟩
        clear gx
        clear hK hg9
        have hK := hK2
        have hg9 := hg2
        clear hK2 hg2
        simp only [List.getElem_toArray, List.getElem_cons_zero, List.getElem_cons_succ, Act.put, mixA, mixL, cond_true, cond_false, List.setIfInBounds_toArray, List.set_cons_zero, List.set_cons_succ]
        refine wpAnyH_go [8] (by kernel_rfl) (by simp) ⟨⟨_, rfl, rfl, ?_⟩, trivial⟩
        refine runs_stw CPT (us := stv s) (ev rfl) (ev rfl) hb1 (by rw [stv_len HS.out, stv_len zst_ok]) (by rw [sizeC, stv_len HS.out]) (stv_one s) fun x42 hbx cx => ?_
        have hK2 := hK.chg cx (fun e => by have h1 := hK.ne hb1 (by decide); exact h1 e)
        have hg2 : Grew V2.drew x42 := grew_lift hg9 cx fun k hk => by have e : k = C := hk; omega
        replace hb2 := hb2.chg cx (fun e => hqq e.symm)
        replace hb1 := hbx
        refine ⟨hK2, ?_⟩
        clear cx hbx
        clear hK hg9
        have hK := hK2
        have hg9 := hg2
        clear hK2 hg2
        simp only [List.getElem_toArray, List.getElem_cons_zero, List.getElem_cons_succ, Act.put, mixA, mixL, cond_true, cond_false, List.setIfInBounds_toArray, List.set_cons_zero, List.set_cons_succ]
        refine wpAnyH_go [9] (by kernel_rfl) (by simp) ⟨⟨_, rfl, rfl, ?_⟩, trivial⟩
        refine runs_stw CPT (us := stv s) (ev rfl) (ev rfl) hb2 (by rw [stv_len HS.out, stv_len zst_ok]) (by rw [sizeC, stv_len HS.out]) (stv_one s) fun x43 hbx cx => ?_
        have hK2 := hK.chg cx (fun e => by have h1 := hK.ne hb2 (by decide); exact h1 e)
        have hg2 : Grew V2.drew x43 := grew_lift hg9 cx fun k hk => by have e : k = D := hk; omega
        replace hb1 := hb1.chg cx (fun e => hqq e)
        replace hb2 := hbx
        refine ⟨hK2, ?_⟩
        clear cx hbx
        clear hK hg9
        have hK := hK2
        have hg9 := hg2
        clear hK2 hg2
        simp only [List.getElem_toArray, List.getElem_cons_zero, List.getElem_cons_succ, Act.put, mixA, mixL, cond_true, cond_false, List.setIfInBounds_toArray, List.set_cons_zero, List.set_cons_succ]
        refine wpAnyH_done (by kernel_rfl) ?_ _
        exact ⟨rfl, C, D, by kernel_rfl, hb1, hb2, hqq, hB0 ▸ hm1, hB0 ▸ hm2, hgd.trans hg9⟩
    · refine runs_alw CPT (stv zst) zeroC fun x44 hb2 gx => ?_
      have hK2 := hK.grew gx
      have hg2 := hg9.trans gx
      have hm2 : B0 ≤ V2.drew.heap.size := Nat.le_trans (Nat.le_of_eq hBd) hg9.sz
      generalize V2.drew.heap.size = D at hb2 hm2 ⊢
      refine ⟨hK2, ?_⟩
      clear gx
      clear hK hg9
      have hK := hK2
      have hg9 := hg2
      clear hK2 hg2
      simp only [List.getElem_toArray, List.getElem_cons_zero, List.getElem_cons_succ, Act.put, mixA, mixL, cond_true, cond_false, List.setIfInBounds_toArray, List.set_cons_zero, List.set_cons_succ]
      refine wpAnyH_go [2, 6] (by kernel_rfl) (by simp) ⟨⟨_, rfl, rfl, ?_⟩, ⟨_, rfl, rfl, ?_⟩, trivial⟩
      · refine runs_c1 en_ownz (ev rfl) ((own_any s HS.out _).mono ?_)
        rintro e x45 ⟨rfl, gx⟩
        have hK2 := hK.grew gx
        have hg2 := hg9.trans gx
        replace hb2 := hb2.grew gx
        refine ⟨_, rfl, hK2, ?_⟩
        clear gx
        clear hK hg9
        have hK := hK2
        have hg9 := hg2
        clear hK2 hg2
        simp only [List.getElem_toArray, List.getElem_cons_zero, List.getElem_cons_succ, Act.put, mixA, mixL, cond_true, cond_false, List.setIfInBounds_toArray, List.set_cons_zero, List.set_cons_succ]
        refine wpAnyH_go [5, 6] (by kernel_rfl) (by simp) ⟨⟨_, rfl, rfl, ?_⟩, ⟨_, rfl, rfl, ?_⟩, trivial⟩
        · refine runs_c1 en_ownz (ev rfl) ((own_any s HS.out _).mono ?_)
          rintro e x46 ⟨rfl, gx⟩
          have hK2 := hK.grew gx
          have hg2 := hg9.trans gx
          replace hb2 := hb2.grew gx
          refine ⟨_, rfl, hK2, ?_⟩
          clear gx
          clear hK hg9
          have hK := hK2
          have hg9 := hg2
          clear hK2 hg2
          simp only [List.getElem_toArray, List.getElem_cons_zero, List.getElem_cons_succ, Act.put, mixA, mixL, cond_true, cond_false, List.setIfInBounds_toArray, List.set_cons_zero, List.set_cons_succ]
          refine wpAnyH_go [6] (by kernel_rfl) (by simp) ⟨⟨_, rfl, rfl, ?_⟩, trivial⟩
          refine runs_alw CPT (stv zst) zeroC fun x47 hb1 gx => ?_
          have hK2 := hK.grew gx
          have hg2 := hg9.trans gx
          have hm1 : B0 ≤ x46.heap.size := Nat.le_trans (Nat.le_of_eq hBd) hg9.sz
          have hqq : D ≠ x46.heap.size := by have := hb2.lt; omega
          replace hb2 := hb2.grew gx
          have hqq := hqq.symm
          generalize x46.heap.size = C at hb1 hm1 hqq ⊢
          refine ⟨hK2, ?_⟩
          clear gx
          clear hK hg9
          have hK := hK2
          have hg9 := hg2
          clear hK2 hg2
          simp only [List.getElem_toArray, List.getElem_cons_zero, List.getElem_cons_succ, Act.put, mixA, mixL, cond_true, cond_false, List.setIfInBounds_toArray, List.set_cons_zero, List.set_cons_succ]
          refine wpAnyH_go [8] (by kernel_rfl) (by simp) ⟨⟨_, rfl, rfl, ?_⟩, trivial⟩
          refine runs_stw CPT (us := stv s) (ev rfl) (ev rfl) hb1 (by rw [stv_len HS.out, stv_len zst_ok]) (by rw [sizeC, stv_len HS.out]) (stv_one s) fun x48 hbx cx => ?_
          have hK2 := hK.chg cx (fun e => by have h1 := hK.ne hb1 (by decide); exact h1 e)
          have hg2 : Grew V2.drew x48 := grew_lift hg9 cx fun k hk => by have e : k = C := hk; omega
          replace hb2 := hb2.chg cx (fun e => hqq e.symm)
          replace hb1 := hbx
          refine ⟨hK2, ?_⟩
          clear cx hbx
          clear hK hg9
          have hK := hK2
          have hg9 := hg2
          clear hK2 hg2
          simp only [List.getElem_toArray, List.getElem_cons_zero, List.getElem_cons_succ, Act.put, mixA, mixL, cond_true, cond_false, List.setIfInBounds_toArray, List.set_cons_zero, List.set_cons_succ]
          refine wpAnyH_go [9] (by kernel_rfl) (by simp) ⟨⟨_, rfl, rfl, ?_⟩, trivial⟩
          refine runs_stw CPT (us := stv s) (ev rfl) (ev rfl) hb2 (by rw [stv_len HS.out, stv_len zst_ok]) (by rw [sizeC, stv_len HS.out]) (stv_one s) fun x49 hbx cx => ?_
          have hK2 := hK.chg cx (fun e => by have h1 := hK.ne hb2 (by decide); exact h1 e)
          have hg2 : Grew V2.drew x49 := grew_lift hg9 cx fun k hk => by have e : k = D := hk; omega
          replace hb1 := hb1.chg cx (fun e => hqq e)
          replace hb2 := hbx
          refine ⟨hK2, ?_⟩
          clear cx hbx
          clear hK hg9
          have hK := hK2
          have hg9 := hg2
          clear hK2 hg2
          simp only [List.getElem_toArray, List.getElem_cons_zero, List.getElem_cons_succ, Act.put, mixA, mixL, cond_true, cond_false, List.setIfInBounds_toArray, List.set_cons_zero, List.set_cons_succ]
          refine wpAnyH_done (by kernel_rfl) ?_ _
          exact ⟨rfl, C, D, by kernel_rfl, hb1, hb2, hqq, hB0 ▸ hm1, hB0 ▸ hm2, hgd.trans hg9⟩
        · refine runs_alw CPT (stv zst) zeroC fun x50 hb1 gx => ?_
          have hK2 := hK.grew gx
          have hg2 := hg9.trans gx
          have hm1 : B0 ≤ x45.heap.size := Nat.le_trans (Nat.le_of_eq hBd) hg9.sz
          have hqq : D ≠ x45.heap.size := by have := hb2.lt; omega
          replace hb2 := hb2.grew gx
          have hqq := hqq.symm
          generalize x45.heap.size = C at hb1 hm1 hqq ⊢
          refine ⟨hK2, ?_⟩
          clear gx
          clear hK hg9
          have hK := hK2
          have hg9 := hg2
          clear hK2 hg2
          simp only [List.getElem_toArray, List.getElem_cons_zero, List.getElem_cons_succ, Act.put, mixA, mixL, cond_true, cond_false, List.setIfInBounds_toArray, List.set_cons_zero, List.set_cons_succ]
          refine wpAnyH_go [5] (by kernel_rfl) (by simp) ⟨⟨_, rfl, rfl, ?_⟩, trivial⟩
          refine runs_c1 en_ownz (ev rfl) ((own_any s HS.out _).mono ?_)
          rintro e x51 ⟨rfl, gx⟩
          have hK2 := hK.grew gx
          have hg2 := hg9.trans gx
          replace hb1 := hb1.grew gx
          replace hb2 := hb2.grew gx
          refine ⟨_, rfl, hK2, ?_⟩
          clear gx
          clear hK hg9
          have hK := hK2
          have hg9 := hg2
          clear hK2 hg2
          simp only [List.getElem_toArray, List.getElem_cons_zero, List.getElem_cons_succ, Act.put, mixA, mixL, cond_true, cond_false, List.setIfInBounds_toArray, List.set_cons_zero, List.set_cons_succ]
          refine wpAnyH_go [8] (by kernel_rfl) (by simp) ⟨⟨_, rfl, rfl, ?_⟩, trivial⟩
          refine runs_stw CPT (us := stv s) (ev rfl) (ev rfl) hb1 (by rw [stv_len HS.out, stv_len zst_ok]) (by rw [sizeC, stv_len HS.out]) (stv_one s) fun x52 hbx cx => ?_
          have hK2 := hK.chg cx (fun e => by have h1 := hK.ne hb1 (by decide); exact h1 e)
          have hg2 : Grew V2.drew x52 := grew_lift hg9 cx fun k hk => by have e : k = C := hk; omega
          replace hb2 := hb2.chg cx (fun e => hqq e.symm)
          replace hb1 := hbx
          refine ⟨hK2, ?_⟩
          clear cx hbx
          clear hK hg9
          have hK := hK2
          have hg9 := hg2
          clear hK2 hg2
          simp only [List.getElem_toArray, List.getElem_cons_zero, List.getElem_cons_succ, Act.put, mixA, mixL, cond_true, cond_false, List.setIfInBounds_toArray, List.set_cons_zero, List.set_cons_succ]
          refine wpAnyH_go [9] (by kernel_rfl) (by simp) ⟨⟨_, rfl, rfl, ?_⟩, trivial⟩
          refine runs_stw CPT (us := stv s) (ev rfl) (ev rfl) hb2 (by rw [stv_len HS.out, stv_len zst_ok]) (by rw [sizeC, stv_len HS.out]) (stv_one s) fun x53 hbx cx => ?_
          have hK2 := hK.chg cx (fun e => by have h1 := hK.ne hb2 (by decide); exact h1 e)
          have hg2 : Grew V2.drew x53 := grew_lift hg9 cx fun k hk => by have e : k = D := hk; omega
          replace hb1 := hb1.chg cx (fun e => hqq e)
          replace hb2 := hbx
          refine ⟨hK2, ?_⟩
          clear cx hbx
          clear hK hg9
          have hK := hK2
          have hg9 := hg2
          clear hK2 hg2
          simp only [List.getElem_toArray, List.getElem_cons_zero, List.getElem_cons_succ, Act.put, mixA, mixL, cond_true, cond_false, List.setIfInBounds_toArray, List.set_cons_zero, List.set_cons_succ]
          refine wpAnyH_done (by kernel_rfl) ?_ _
          exact ⟨rfl, C, D, by kernel_rfl, hb1, hb2, hqq, hB0 ▸ hm1, hB0 ▸ hm2, hgd.trans hg9⟩
      · refine runs_alw CPT (stv zst) zeroC fun x54 hb1 gx => ?_
        have hK2 := hK.grew gx
        have hg2 := hg9.trans gx
        have hm1 : B0 ≤ x44.heap.size := Nat.le_trans (Nat.le_of_eq hBd) hg9.sz
        have hqq : D ≠ x44.heap.size := by have := hb2.lt; omega
        replace hb2 := hb2.grew gx
        have hqq := hqq.symm
        generalize x44.heap.size = C at hb1 hm1 hqq ⊢
        refine ⟨hK2, ?_⟩
        clear gx
        clear hK hg9
        have hK := hK2
        have hg9 := hg2
        clear hK2 hg2
        simp only [List.getElem_toArray, List.getElem_cons_zero, List.getElem_cons_succ, Act.put, mixA, mixL, cond_true, cond_false, List.setIfInBounds_toArray, List.set_cons_zero, List.set_cons_succ]
        refine wpAnyH_go [2] (by kernel_rfl) (by simp) ⟨⟨_, rfl, rfl, ?_⟩, trivial⟩
        refine runs_c1 en_ownz (ev rfl) ((own_any s HS.out _).mono ?_)
        rintro e x55 ⟨rfl, gx⟩
        have hK2 := hK.grew gx
        have hg2 := hg9.trans gx
        replace hb1 := hb1.grew gx
        replace hb2 := hb2.grew gx
        refine ⟨_, rfl, hK2, ?_⟩
        clear gx
        clear hK hg9
        have hK := hK2
        have hg9 := hg2
        clear hK2 hg2
        simp only [List.getElem_toArray, List.getElem_cons_zero, List.getElem_cons_succ, Act.put, mixA, mixL, cond_true, cond_false, List.setIfInBounds_toArray, List.set_cons_zero, List.set_cons_succ]
        refine wpAnyH_go [5] (by kernel_rfl) (by simp) ⟨⟨_, rfl, rfl, ?_⟩, trivial⟩
        refine runs_c1 en_ownz (ev rfl) ((own_any s HS.out _).mono ?_)
        rintro e x56 ⟨rfl, gx⟩
        have hK2 := hK.grew gx
        have hg2 := hg9.trans gx
        replace hb1 := hb1.grew gx
        replace hb2 := hb2.grew gx
        refine ⟨_, rfl, hK2, ?_⟩
        clear gx
        clear hK hg9
        have hK := hK2
        have hg9 := hg2
        clear hK2 hg2
        simp only [List.getElem_toArray, List.getElem_cons_zero, List.getElem_cons_succ, Act.put, mixA, mixL, cond_true, cond_false, List.setIfInBounds_toArray, List.set_cons_zero, List.set_cons_succ]
        refine wpAnyH_go [8] (by kernel_rfl) (by simp) ⟨⟨_, rfl, rfl, ?_⟩, trivial⟩
        refine runs_stw CPT (us := stv s) (ev rfl) (ev rfl) hb1 (by rw [stv_len HS.out, stv_len zst_ok]) (by rw [sizeC, stv_len HS.out]) (stv_one s) fun x57 hbx cx => ?_
        have hK2 := hK.chg cx (fun e => by have h1 := hK.ne hb1 (by decide); exact h1 e)
        have hg2 : Grew V2.drew x57 := grew_lift hg9 cx fun k hk => by have e : k = C := hk; omega
        replace hb2 := hb2.chg cx (fun e => hqq e.symm)
        replace hb1 := hbx
        refine ⟨hK2, ?_⟩
        clear cx hbx
        clear hK hg9
        have hK := hK2
        have hg9 := hg2
        clear hK2 hg2
        simp only [List.getElem_toArray, List.getElem_cons_zero, List.getElem_cons_succ, Act.put, mixA, mixL, cond_true, cond_false, List.setIfInBounds_toArray, List.set_cons_zero, List.set_cons_succ]
        refine wpAnyH_go [9] (by kernel_rfl) (by simp) ⟨⟨_, rfl, rfl, ?_⟩, trivial⟩
        refine runs_stw CPT (us := stv s) (ev rfl) (ev rfl) hb2 (by rw [stv_len HS.out, stv_len zst_ok]) (by rw [sizeC, stv_len HS.out]) (stv_one s) fun x58 hbx cx => ?_
        have hK2 := hK.chg cx (fun e => by have h1 := hK.ne hb2 (by decide); exact h1 e)
        have hg2 : Grew V2.drew x58 := grew_lift hg9 cx fun k hk => by have e : k = D := hk; omega
        replace hb1 := hb1.chg cx (fun e => hqq e)
        replace hb2 := hbx
        refine ⟨hK2, ?_⟩
        clear cx hbx
        clear hK hg9
        have hK := hK2
        have hg9 := hg2
        clear hK2 hg2
        simp only [List.getElem_toArray, List.getElem_cons_zero, List.getElem_cons_succ, Act.put, mixA, mixL, cond_true, cond_false, List.setIfInBounds_toArray, List.set_cons_zero, List.set_cons_succ]
        refine wpAnyH_done (by kernel_rfl) ?_ _
        exact ⟨rfl, C, D, by kernel_rfl, hb1, hb2, hqq, hB0 ▸ hm1, hB0 ▸ hm2, hgd.trans hg9⟩
  rintro a' V3 ⟨C, D, rfl, hC, hD, hCD, hc, hd, g3⟩
  simp only [List.getElem_toArray, List.getElem_cons_zero, List.getElem_cons_succ, Act.put, mixA, mixL, cond_true, cond_false, List.setIfInBounds_toArray, List.set_cons_zero, List.set_cons_succ]
  have HC := Lib.hid hC
  have HD := Lib.hid hD
  have HCD := Lib.hid hCD
  have HGV := Lib.hid (HG2.out.trans g3)
  have HNC : Hid (N ≤ C) := Lib.hid (by have := HNV.out; have := HG2.out.sz; omega)
  have HND : Hid (N ≤ D) := Lib.hid (by have := HNV.out; have := HG2.out.sz; omega)
  have HPR : Hid (Pair N q1 q2 W W V3) := Lib.hid (by rw [HNV.out]; exact HTW.out.pair.grew g3)
  clear hC hD hCD hc hd g3 HTW
  obtain ⟨r1, hr1⟩ : ∃ r, r = runN I L1 s W := ⟨_, rfl⟩
  obtain ⟨rw, hrw⟩ : ∃ r, r = runN I (L1 + L2) s W := ⟨_, rfl⟩
  have hadd := runN_add I L1 L2 s W
  have hn1 := runN_cnt I L1 s W
  rw [← hr1] at hn1
  rw [← hr1, ← hrw] at hadd
  have HR1 := Lib.hid hr1
  have HRW2 := Lib.hid hrw
  clear hr1 hrw
  have tk1 := Lib.hid trivial
  have tk3 := Lib.hid trivial
  have u0 : V3.cell? ⟨U, 0, none⟩ = some (.int .u8 (L1 : Int)) := (HBT.out.grew HGV.out).cell 0
  have u1 : V3.cell? ⟨U, 1, none⟩ = some (.int .u8 (L2 : Int)) := (HBT.out.grew HGV.out).cell 1
  by_cases h1 : r1.2.1 = 1
  · rw [if_pos h1] at hadd
    have b1 : (r1.2.1 == 1) = true := by simpa using h1
    have b1' : (r1.2.1 != 1) = false := by rw [h1]; rfl
    obtain ⟨r2, hr2⟩ : ∃ r, r = runN I L2 r1.1 r1.2.2.2 := ⟨_, rfl⟩
    have hn2 := runN_cnt I L2 r1.1 r1.2.2.2
    rw [← hr2] at hadd hn2
    have HR2 := Lib.hid hr2
    have HA1 : Hid (rw.1 = r2.1) := Lib.hid (by rw [hadd])
    have HA2 : Hid (rw.2.1 = r2.2.1) := Lib.hid (by rw [hadd])
    have HA3 : Hid (rw.2.2.1 = r1.2.2.1 + r2.2.2.1) := Lib.hid (by rw [hadd])
    have HA4 : Hid (rw.2.2.2 = r2.2.2.2) := Lib.hid (by rw [hadd])
    have HNN : Hid (r1.2.2.1 ≤ 255 ∧ r2.2.2.1 ≤ 255) := Lib.hid ⟨by omega, by omega⟩
    have tk2 := Lib.hid trivial
    clear hr2 hadd h1 hn1 hn2
    go_upto_region 14 with (first
      | (go_at_call 18; clear tk1; clear u0 u1; obtain ⟨S9, hb9, hn9⟩ := HPR.out.left; (with_reducible refine (run_at _ L1 (by omega) I s W N C X q1 S9 _ HC.out hb9 (HIM.out.grew HGV.out) HIO.out (HEN.out.grew HGV.out) HS.out (by have := HSM.out.cs; omega) (by have := HNV.out; have := HGV.out.sz; omega) HNC.out HWO.out).mono ?_); rintro e wA ⟨rfl, hP, hok, hwk, hlen⟩; rw [← HR1.out] at hP hok hwk hlen ⊢; obtain ⟨hC8, hbus8⟩ := hP; obtain ⟨hp8, hbl, hoth⟩ := hn9 (fun k => k = C) _ _ (fun k e => (by have e2 : k = C := e; subst e2; exact ⟨HNC.out, _, _, (by decide), HC.out⟩)) hbus8 (by have := HNV.out; have := HGV.out.sz; omega); have HD8 := Lib.hid (hoth D _ CPT (by decide) HD.out HCD.out.symm); clear HD HC HPR; have HC := Lib.hid hC8; have HD := Lib.hid HD8.out; have HPR := Lib.hid hp8; have HOK1 := Lib.hid hok; have HWK1 := Lib.hid hwk; have HLN1 := Lib.hid hlen; have HGV8 : Hid (Grew V wA) := Lib.hid (Below.trans HGV.out (HNV.out ▸ hbl)); clear HGV; have HGV := Lib.hid HGV8.out; clear HGV8 HD8 hC8 hbus8 hp8 hbl hoth hok hwk hlen hb9 hn9; have u0 : wA.cell? ⟨U, 0, none⟩ = some (.int .u8 (L1 : Int)) := (HBT.out.grew HGV.out).cell 0; have u1 : wA.cell? ⟨U, 1, none⟩ = some (.int .u8 (L2 : Int)) := (HBT.out.grew HGV.out).cell 1)
      | (go_at_call 18; clear tk2; clear u0 u1; obtain ⟨S9, hb9, hn9⟩ := HPR.out.left; (with_reducible refine (run_at _ L2 (by omega) I r1.1 r1.2.2.2 N C X q1 S9 _ HC.out hb9 (HIM.out.grew HGV.out) HIO.out (HEN.out.grew HGV.out) HOK1.out (by have := HSM.out.cs; have := HLN1.out; omega) (by have := HNV.out; have := HGV.out.sz; omega) HNC.out HWK1.out).mono ?_); rintro e wB ⟨rfl, hP, hok, hwk, hlen⟩; rw [← HR2.out] at hP hok hwk hlen ⊢; obtain ⟨hC8, hbus8⟩ := hP; obtain ⟨hp8, hbl, hoth⟩ := hn9 (fun k => k = C) _ _ (fun k e => (by have e2 : k = C := e; subst e2; exact ⟨HNC.out, _, _, (by decide), HC.out⟩)) hbus8 (by have := HNV.out; have := HGV.out.sz; omega); have HD8 := Lib.hid (hoth D _ CPT (by decide) HD.out HCD.out.symm); clear HD HC HPR; have HC := Lib.hid hC8; have HD := Lib.hid HD8.out; have HPR := Lib.hid hp8; have HOK2 := Lib.hid hok; have HWK2 := Lib.hid hwk; have HLN2 := Lib.hid hlen; have HGV8 : Hid (Grew V wB) := Lib.hid (Below.trans HGV.out (HNV.out ▸ hbl)); clear HGV; have HGV := Lib.hid HGV8.out; clear HGV8 HD8 hC8 hbus8 hp8 hbl hoth hok hwk hlen hb9 hn9; have u0 : wB.cell? ⟨U, 0, none⟩ = some (.int .u8 (L1 : Int)) := (HBT.out.grew HGV.out).cell 0; have u1 : wB.cell? ⟨U, 1, none⟩ = some (.int .u8 (L2 : Int)) := (HBT.out.grew HGV.out).cell 1)
      | (go_at_call 18; clear tk3; clear u0 u1; obtain ⟨S9, hb9, hn9⟩ := HPR.out.symm.left; (with_reducible refine (run_at _ (L1 + L2) (by omega) I s W N D X q2 S9 _ HD.out hb9 (HIM.out.grew HGV.out) HIO.out (HEN.out.grew HGV.out) HS.out (by have := HSM.out.cs; omega) (by have := HNV.out; have := HGV.out.sz; omega) HND.out HWO.out).mono ?_); rintro e wC ⟨rfl, hP, hok, hwk, hlen⟩; rw [← HRW2.out] at hP hok hwk hlen ⊢; obtain ⟨hC8, hbus8⟩ := hP; obtain ⟨hp8, hbl, hoth⟩ := hn9 (fun k => k = D) _ _ (fun k e => (by have e2 : k = D := e; subst e2; exact ⟨HND.out, _, _, (by decide), HD.out⟩)) hbus8 (by have := HNV.out; have := HGV.out.sz; omega); have HD8 := Lib.hid (hoth C _ CPT (by decide) HC.out HCD.out); clear HC HD HPR; have HD := Lib.hid hC8; have HC := Lib.hid HD8.out; have HPR := Lib.hid hp8.symm; have HOK3 := Lib.hid hok; have HWK3 := Lib.hid hwk; have HLN3 := Lib.hid hlen; have HGV8 : Hid (Grew V wC) := Lib.hid (Below.trans HGV.out (HNV.out ▸ hbl)); clear HGV; have HGV := Lib.hid HGV8.out; clear HGV8 HD8 hC8 hbus8 hp8 hbl hoth hok hwk hlen hb9 hn9; have u0 : wC.cell? ⟨U, 0, none⟩ = some (.int .u8 (L1 : Int)) := (HBT.out.grew HGV.out).cell 0; have u1 : wC.cell? ⟨U, 1, none⟩ = some (.int .u8 (L2 : Int)) := (HBT.out.grew HGV.out).cell 1))
    rw [HA2.out, HA3.out]
    have hd9 := HD.out
    have hp9 := HPR.out
    rw [HA1.out] at hd9
    rw [HA4.out] at hp9
    clear HD HPR
    have HD := Lib.hid hd9
    have HOKZ : Hid r2.1.Ok := Lib.hid HOK2.out
    obtain ⟨S1, S2, ⟨a1, a2, a3, a4, a5, a6, ha9⟩, ⟨b1, b2, b3, b4, b5, b6, hb9⟩, _⟩ := hp9
    clear u0 u1 hd9
    refine wp_region_list ?_
    refine wpList_runs rfl (some 87) rfl (runs_mv (ev rfl) ?_)
    simp only [List.getElem_toArray, List.getElem_cons_zero, List.getElem_cons_succ, Act.put, mixA, mixL, cond_true, cond_false, List.setIfInBounds_toArray, List.set_cons_zero, List.set_cons_succ]
    refine wpList_runs rfl (some 88) rfl (runs_mv (ev rfl) ?_)
    simp only [List.getElem_toArray, List.getElem_cons_zero, List.getElem_cons_succ, Act.put, mixA, mixL, cond_true, cond_false, List.setIfInBounds_toArray, List.set_cons_zero, List.set_cons_succ]
    refine wpList_runs rfl (some 89) rfl (runs_to (v := .bool ((r2.2.1) == (r2.2.1))) (u := .bool (true)) (rn_eql_3 (ev rfl) (ev rfl) ⟨rfl, rfl⟩) (congrArg Value.bool (by simp)) ?_)
    simp only [List.getElem_toArray, List.getElem_cons_zero, List.getElem_cons_succ, Act.put, mixA, mixL, cond_true, cond_false, List.setIfInBounds_toArray, List.set_cons_zero, List.set_cons_succ]
    refine wpList_runs rfl (some 90) rfl (runs_mv (ev rfl) ?_)
    simp only [List.getElem_toArray, List.getElem_cons_zero, List.getElem_cons_succ, Act.put, mixA, mixL, cond_true, cond_false, List.setIfInBounds_toArray, List.set_cons_zero, List.set_cons_succ]
    refine wpList_taken rfl (some 91) rfl (runs_mv (ev rfl) ?_)
    simp only [List.getElem_toArray, List.getElem_cons_zero, List.getElem_cons_succ, Act.put, mixA, mixL, cond_true, cond_false, List.setIfInBounds_toArray, List.set_cons_zero, List.set_cons_succ]
    refine wpList_taken rfl (some 92) rfl (runs_mv (ev rfl) ?_)
    simp only [List.getElem_toArray, List.getElem_cons_zero, List.getElem_cons_succ, Act.put, mixA, mixL, cond_true, cond_false, List.setIfInBounds_toArray, List.set_cons_zero, List.set_cons_succ]
    refine wpList_taken rfl (some 93) rfl (runs_mv (ev rfl) ?_)
    simp only [List.getElem_toArray, List.getElem_cons_zero, List.getElem_cons_succ, Act.put, mixA, mixL, cond_true, cond_false, List.setIfInBounds_toArray, List.set_cons_zero, List.set_cons_succ]
    refine wpList_taken rfl (some 94) rfl (rn_add_3 (ev rfl) (ev rfl) (by have := HNN.out; omega) ?_)
    simp only [List.getElem_toArray, List.getElem_cons_zero, List.getElem_cons_succ, Act.put, mixA, mixL, cond_true, cond_false, List.setIfInBounds_toArray, List.set_cons_zero, List.set_cons_succ]
    refine wpList_taken rfl (some 95) rfl (runs_to (v := .bool ((((r1.2.2.1 + r2.2.2.1 : Nat) : Int)) == ((((r1.2.2.1 : Nat) : Int)) + (((r2.2.2.1 : Nat) : Int))))) (u := .bool (true)) (rn_eql_3 (ev rfl) (ev rfl) ⟨rfl, rfl⟩) (congrArg Value.bool (by simp)) ?_)
    simp only [List.getElem_toArray, List.getElem_cons_zero, List.getElem_cons_succ, Act.put, mixA, mixL, cond_true, cond_false, List.setIfInBounds_toArray, List.set_cons_zero, List.set_cons_succ]
    refine wpList_runs rfl (some 96) rfl (runs_an (ev rfl) (fun hb => ev (rfl)) ?_)
    simp only [List.getElem_toArray, List.getElem_cons_zero, List.getElem_cons_succ, Act.put, mixA, mixL, cond_true, cond_false, List.setIfInBounds_toArray, List.set_cons_zero, List.set_cons_succ]
    refine wpList_runs rfl (some 97) rfl (runs_mv (ev rfl) ?_)
    simp only [List.getElem_toArray, List.getElem_cons_zero, List.getElem_cons_succ, Act.put, mixA, mixL, cond_true, cond_false, List.setIfInBounds_toArray, List.set_cons_zero, List.set_cons_succ]
    refine wpList_taken rfl (some 98) rfl (runs_ldm 43 (ev rfl) HC.out.range Tryd.underlying43 rfl (by rw [sizeC, stv_len HOKZ.out]) ?_)
    simp only [List.getElem_toArray, List.getElem_cons_zero, List.getElem_cons_succ, Act.put, mixA, mixL, cond_true, cond_false, List.setIfInBounds_toArray, List.set_cons_zero, List.set_cons_succ]
    refine wpList_taken rfl (some 99) rfl (runs_ldm 43 (ev rfl) HD.out.range Tryd.underlying43 rfl (by rw [sizeC, stv_len HOKZ.out]) ?_)
    simp only [List.getElem_toArray, List.getElem_cons_zero, List.getElem_cons_succ, Act.put, mixA, mixL, cond_true, cond_false, List.setIfInBounds_toArray, List.set_cons_zero, List.set_cons_succ]
    refine wpList_taken rfl (some 100) rfl (runs_eqA (ev rfl) (ev rfl) (eqC HOKZ.out _) grdC ?_)
    simp only [List.getElem_toArray, List.getElem_cons_zero, List.getElem_cons_succ, Act.put, mixA, mixL, cond_true, cond_false, List.setIfInBounds_toArray, List.set_cons_zero, List.set_cons_succ]
    refine wpList_runs rfl (some 101) rfl (runs_an (ev rfl) (fun hb => ev (rfl)) ?_)
    simp only [List.getElem_toArray, List.getElem_cons_zero, List.getElem_cons_succ, Act.put, mixA, mixL, cond_true, cond_false, List.setIfInBounds_toArray, List.set_cons_zero, List.set_cons_succ]
    refine wpList_runs rfl (some 102) rfl (runs_mv (ev rfl) ?_)
    simp only [List.getElem_toArray, List.getElem_cons_zero, List.getElem_cons_succ, Act.put, mixA, mixL, cond_true, cond_false, List.setIfInBounds_toArray, List.set_cons_zero, List.set_cons_succ]
    refine wpList_taken rfl (some 103) rfl (runs_ldm 37 (ev rfl) ha9.rcd.range Tryd.underlying37 rfl (by rw [sizeW]; rfl) ?_)
    simp only [List.getElem_toArray, List.getElem_cons_zero, List.getElem_cons_succ, Act.put, mixA, mixL, cond_true, cond_false, List.setIfInBounds_toArray, List.set_cons_zero, List.set_cons_succ]
    refine wpList_taken rfl (some 104) rfl (runs_ldm 37 (ev rfl) hb9.rcd.range Tryd.underlying37 rfl (by rw [sizeW]; rfl) ?_)
    simp only [List.getElem_toArray, List.getElem_cons_zero, List.getElem_cons_succ, Act.put, mixA, mixL, cond_true, cond_false, List.setIfInBounds_toArray, List.set_cons_zero, List.set_cons_succ]
    refine wpList_taken rfl (some 105) rfl (runs_c2 en_swz (ev rfl) (ev rfl) ((sameworld_self r2.2.2.2 a1 a2 a3 a4 a5 a6 b1 b2 b3 b4 b5 b6 _ (OwR.rd encH ha9.ow).2.rd ha9.rd (OwR.rd encL ha9.oc).2.rd (OwR.rd encH hb9.ow).2.rd hb9.rd (OwR.rd encL hb9.oc).2.rd).mono ?_))
    rintro e w9 ⟨rfl, gz⟩
    refine ⟨_, rfl, ?_⟩
    have HGZ := Lib.hid (HG.out.trans (HGV.out.trans gz))
    clear gz
    simp only [List.getElem_toArray, List.getElem_cons_zero, List.getElem_cons_succ, Act.put, mixA, mixL, cond_true, cond_false, List.setIfInBounds_toArray, List.set_cons_zero, List.set_cons_succ]
    refine wpList_runs rfl (some 106) rfl (runs_an (ev rfl) (fun hb => ev (rfl)) ?_)
    simp only [List.getElem_toArray, List.getElem_cons_zero, List.getElem_cons_succ, Act.put, mixA, mixL, cond_true, cond_false, List.setIfInBounds_toArray, List.set_cons_zero, List.set_cons_succ]
    refine wpList_runs rfl (some 6) rfl (runs_mva (ev rfl) ?_)
    simp only [List.getElem_toArray, List.getElem_cons_zero, List.getElem_cons_succ, Act.put, mixA, mixL, cond_true, cond_false, List.setIfInBounds_toArray, List.set_cons_zero, List.set_cons_succ]
    go_wp2
    go_ret
    exact ⟨rfl, HGZ.out⟩
  · rw [if_neg h1] at hadd
    have b1 : (r1.2.1 == 1) = false := by simpa using h1
    have b1' : (r1.2.1 != 1) = true := by rw [bne, b1]; rfl
    have HA1 : Hid (rw.1 = r1.1) := Lib.hid (by rw [hadd])
    have HA2 : Hid (rw.2.1 = r1.2.1) := Lib.hid (by rw [hadd])
    have HA3 : Hid (rw.2.2.1 = r1.2.2.1) := Lib.hid (by rw [hadd])
    have HA4 : Hid (rw.2.2.2 = r1.2.2.2) := Lib.hid (by rw [hadd])
    have HNN : Hid (r1.2.2.1 ≤ 255) := Lib.hid (by omega)
    clear hadd h1 hn1
    go_upto_region 13 with (first
      | (go_at_call 18; clear tk1; clear u0 u1; obtain ⟨S9, hb9, hn9⟩ := HPR.out.left; (with_reducible refine (run_at _ L1 (by omega) I s W N C X q1 S9 _ HC.out hb9 (HIM.out.grew HGV.out) HIO.out (HEN.out.grew HGV.out) HS.out (by have := HSM.out.cs; omega) (by have := HNV.out; have := HGV.out.sz; omega) HNC.out HWO.out).mono ?_); rintro e wA ⟨rfl, hP, hok, hwk, hlen⟩; rw [← HR1.out] at hP hok hwk hlen ⊢; obtain ⟨hC8, hbus8⟩ := hP; obtain ⟨hp8, hbl, hoth⟩ := hn9 (fun k => k = C) _ _ (fun k e => (by have e2 : k = C := e; subst e2; exact ⟨HNC.out, _, _, (by decide), HC.out⟩)) hbus8 (by have := HNV.out; have := HGV.out.sz; omega); have HD8 := Lib.hid (hoth D _ CPT (by decide) HD.out HCD.out.symm); clear HD HC HPR; have HC := Lib.hid hC8; have HD := Lib.hid HD8.out; have HPR := Lib.hid hp8; have HOK1 := Lib.hid hok; have HWK1 := Lib.hid hwk; have HLN1 := Lib.hid hlen; have HGV8 : Hid (Grew V wA) := Lib.hid (Below.trans HGV.out (HNV.out ▸ hbl)); clear HGV; have HGV := Lib.hid HGV8.out; clear HGV8 HD8 hC8 hbus8 hp8 hbl hoth hok hwk hlen hb9 hn9; have u0 : wA.cell? ⟨U, 0, none⟩ = some (.int .u8 (L1 : Int)) := (HBT.out.grew HGV.out).cell 0; have u1 : wA.cell? ⟨U, 1, none⟩ = some (.int .u8 (L2 : Int)) := (HBT.out.grew HGV.out).cell 1)
      | (go_at_call 18; clear tk3; clear u0 u1; obtain ⟨S9, hb9, hn9⟩ := HPR.out.symm.left; (with_reducible refine (run_at _ (L1 + L2) (by omega) I s W N D X q2 S9 _ HD.out hb9 (HIM.out.grew HGV.out) HIO.out (HEN.out.grew HGV.out) HS.out (by have := HSM.out.cs; omega) (by have := HNV.out; have := HGV.out.sz; omega) HND.out HWO.out).mono ?_); rintro e wC ⟨rfl, hP, hok, hwk, hlen⟩; rw [← HRW2.out] at hP hok hwk hlen ⊢; obtain ⟨hC8, hbus8⟩ := hP; obtain ⟨hp8, hbl, hoth⟩ := hn9 (fun k => k = D) _ _ (fun k e => (by have e2 : k = D := e; subst e2; exact ⟨HND.out, _, _, (by decide), HD.out⟩)) hbus8 (by have := HNV.out; have := HGV.out.sz; omega); have HD8 := Lib.hid (hoth C _ CPT (by decide) HC.out HCD.out); clear HC HD HPR; have HD := Lib.hid hC8; have HC := Lib.hid HD8.out; have HPR := Lib.hid hp8.symm; have HOK3 := Lib.hid hok; have HWK3 := Lib.hid hwk; have HLN3 := Lib.hid hlen; have HGV8 : Hid (Grew V wC) := Lib.hid (Below.trans HGV.out (HNV.out ▸ hbl)); clear HGV; have HGV := Lib.hid HGV8.out; clear HGV8 HD8 hC8 hbus8 hp8 hbl hoth hok hwk hlen hb9 hn9; have u0 : wC.cell? ⟨U, 0, none⟩ = some (.int .u8 (L1 : Int)) := (HBT.out.grew HGV.out).cell 0; have u1 : wC.cell? ⟨U, 1, none⟩ = some (.int .u8 (L2 : Int)) := (HBT.out.grew HGV.out).cell 1))
    rw [HA2.out, HA3.out]
    have hd9 := HD.out
    have hp9 := HPR.out
    rw [HA1.out] at hd9
    rw [HA4.out] at hp9
    clear HD HPR
    have HD := Lib.hid hd9
    have HOKZ : Hid r1.1.Ok := Lib.hid HOK1.out
    obtain ⟨S1, S2, ⟨a1, a2, a3, a4, a5, a6, ha9⟩, ⟨b1, b2, b3, b4, b5, b6, hb9⟩, _⟩ := hp9
    clear u0 u1 hd9
    refine wp_region_list ?_
    refine wpList_runs rfl (some 69) rfl (runs_mv (ev rfl) ?_)
    simp only [List.getElem_toArray, List.getElem_cons_zero, List.getElem_cons_succ, Act.put, mixA, mixL, cond_true, cond_false, List.setIfInBounds_toArray, List.set_cons_zero, List.set_cons_succ]
    refine wpList_runs rfl (some 70) rfl (runs_mv (ev rfl) ?_)
    simp only [List.getElem_toArray, List.getElem_cons_zero, List.getElem_cons_succ, Act.put, mixA, mixL, cond_true, cond_false, List.setIfInBounds_toArray, List.set_cons_zero, List.set_cons_succ]
    refine wpList_runs rfl (some 71) rfl (runs_to (v := .bool ((r1.2.1) == (r1.2.1))) (u := .bool (true)) (rn_eql_3 (ev rfl) (ev rfl) ⟨rfl, rfl⟩) (congrArg Value.bool (by simp)) ?_)
    simp only [List.getElem_toArray, List.getElem_cons_zero, List.getElem_cons_succ, Act.put, mixA, mixL, cond_true, cond_false, List.setIfInBounds_toArray, List.set_cons_zero, List.set_cons_succ]
    refine wpList_runs rfl (some 72) rfl (runs_mv (ev rfl) ?_)
    simp only [List.getElem_toArray, List.getElem_cons_zero, List.getElem_cons_succ, Act.put, mixA, mixL, cond_true, cond_false, List.setIfInBounds_toArray, List.set_cons_zero, List.set_cons_succ]
    refine wpList_taken rfl (some 73) rfl (runs_mv (ev rfl) ?_)
    simp only [List.getElem_toArray, List.getElem_cons_zero, List.getElem_cons_succ, Act.put, mixA, mixL, cond_true, cond_false, List.setIfInBounds_toArray, List.set_cons_zero, List.set_cons_succ]
    refine wpList_taken rfl (some 74) rfl (runs_mv (ev rfl) ?_)
    simp only [List.getElem_toArray, List.getElem_cons_zero, List.getElem_cons_succ, Act.put, mixA, mixL, cond_true, cond_false, List.setIfInBounds_toArray, List.set_cons_zero, List.set_cons_succ]
    refine wpList_taken rfl (some 75) rfl (runs_to (v := .bool ((((r1.2.2.1 : Nat) : Int)) == (((r1.2.2.1 : Nat) : Int)))) (u := .bool (true)) (rn_eql_3 (ev rfl) (ev rfl) ⟨rfl, rfl⟩) (congrArg Value.bool (by simp)) ?_)
    simp only [List.getElem_toArray, List.getElem_cons_zero, List.getElem_cons_succ, Act.put, mixA, mixL, cond_true, cond_false, List.setIfInBounds_toArray, List.set_cons_zero, List.set_cons_succ]
    refine wpList_runs rfl (some 76) rfl (runs_an (ev rfl) (fun hb => ev (rfl)) ?_)
    simp only [List.getElem_toArray, List.getElem_cons_zero, List.getElem_cons_succ, Act.put, mixA, mixL, cond_true, cond_false, List.setIfInBounds_toArray, List.set_cons_zero, List.set_cons_succ]
    refine wpList_runs rfl (some 77) rfl (runs_mv (ev rfl) ?_)
    simp only [List.getElem_toArray, List.getElem_cons_zero, List.getElem_cons_succ, Act.put, mixA, mixL, cond_true, cond_false, List.setIfInBounds_toArray, List.set_cons_zero, List.set_cons_succ]
    refine wpList_taken rfl (some 78) rfl (runs_ldm 43 (ev rfl) HC.out.range Tryd.underlying43 rfl (by rw [sizeC, stv_len HOKZ.out]) ?_)
    simp only [List.getElem_toArray, List.getElem_cons_zero, List.getElem_cons_succ, Act.put, mixA, mixL, cond_true, cond_false, List.setIfInBounds_toArray, List.set_cons_zero, List.set_cons_succ]
    refine wpList_taken rfl (some 79) rfl (runs_ldm 43 (ev rfl) HD.out.range Tryd.underlying43 rfl (by rw [sizeC, stv_len HOKZ.out]) ?_)
    simp only [List.getElem_toArray, List.getElem_cons_zero, List.getElem_cons_succ, Act.put, mixA, mixL, cond_true, cond_false, List.setIfInBounds_toArray, List.set_cons_zero, List.set_cons_succ]
    refine wpList_taken rfl (some 80) rfl (runs_eqA (ev rfl) (ev rfl) (eqC HOKZ.out _) grdC ?_)
    simp only [List.getElem_toArray, List.getElem_cons_zero, List.getElem_cons_succ, Act.put, mixA, mixL, cond_true, cond_false, List.setIfInBounds_toArray, List.set_cons_zero, List.set_cons_succ]
    refine wpList_runs rfl (some 81) rfl (runs_an (ev rfl) (fun hb => ev (rfl)) ?_)
    simp only [List.getElem_toArray, List.getElem_cons_zero, List.getElem_cons_succ, Act.put, mixA, mixL, cond_true, cond_false, List.setIfInBounds_toArray, List.set_cons_zero, List.set_cons_succ]
    refine wpList_runs rfl (some 82) rfl (runs_mv (ev rfl) ?_)
    simp only [List.getElem_toArray, List.getElem_cons_zero, List.getElem_cons_succ, Act.put, mixA, mixL, cond_true, cond_false, List.setIfInBounds_toArray, List.set_cons_zero, List.set_cons_succ]
    refine wpList_taken rfl (some 83) rfl (runs_ldm 37 (ev rfl) ha9.rcd.range Tryd.underlying37 rfl (by rw [sizeW]; rfl) ?_)
    simp only [List.getElem_toArray, List.getElem_cons_zero, List.getElem_cons_succ, Act.put, mixA, mixL, cond_true, cond_false, List.setIfInBounds_toArray, List.set_cons_zero, List.set_cons_succ]
    refine wpList_taken rfl (some 84) rfl (runs_ldm 37 (ev rfl) hb9.rcd.range Tryd.underlying37 rfl (by rw [sizeW]; rfl) ?_)
    simp only [List.getElem_toArray, List.getElem_cons_zero, List.getElem_cons_succ, Act.put, mixA, mixL, cond_true, cond_false, List.setIfInBounds_toArray, List.set_cons_zero, List.set_cons_succ]
    refine wpList_taken rfl (some 85) rfl (runs_c2 en_swz (ev rfl) (ev rfl) ((sameworld_self r1.2.2.2 a1 a2 a3 a4 a5 a6 b1 b2 b3 b4 b5 b6 _ (OwR.rd encH ha9.ow).2.rd ha9.rd (OwR.rd encL ha9.oc).2.rd (OwR.rd encH hb9.ow).2.rd hb9.rd (OwR.rd encL hb9.oc).2.rd).mono ?_))
    rintro e w9 ⟨rfl, gz⟩
    refine ⟨_, rfl, ?_⟩
    have HGZ := Lib.hid (HG.out.trans (HGV.out.trans gz))
    clear gz
    simp only [List.getElem_toArray, List.getElem_cons_zero, List.getElem_cons_succ, Act.put, mixA, mixL, cond_true, cond_false, List.setIfInBounds_toArray, List.set_cons_zero, List.set_cons_succ]
    refine wpList_runs rfl (some 86) rfl (runs_an (ev rfl) (fun hb => ev (rfl)) ?_)
    simp only [List.getElem_toArray, List.getElem_cons_zero, List.getElem_cons_succ, Act.put, mixA, mixL, cond_true, cond_false, List.setIfInBounds_toArray, List.set_cons_zero, List.set_cons_succ]
    refine wpList_runs rfl (some 6) rfl (runs_mva (ev rfl) ?_)
    simp only [List.getElem_toArray, List.getElem_cons_zero, List.getElem_cons_succ, Act.put, mixA, mixL, cond_true, cond_false, List.setIfInBounds_toArray, List.set_cons_zero, List.set_cons_succ]
    go_wp2
    go_ret
    exact ⟨rfl, HGZ.out⟩
end Go.Proofs.YtbhglpiiabpdjaaDoor
