/-
  THE STATEMENT Run OF LAYER 12 (cpu), WALKED.
-/
import Derived.Test.YtbhglpiiabpdjaaDoorShort
import Derived.Test.YtbhglpiiabpdjaaDoorCpuTw5
import Derived.Test.YtbhglpiiabpdjaaDoorCpuMq
import Derived.Deep.RegionHeld
namespace Go.Proofs.YtbhglpiiabpdjaaDoor
open Go Go.RowKit Go.IntWalk Go.WideShapes
set_option linter.unusedSimpArgs false
set_option linter.unusedVariables false
set_option maxRecDepth 8000
section
variable {dst : Option Tmp} {ty : TypeId} {pos : String} {after : Array Edge} {g : Option (Nat × Bool)} {a : Act} {w : World} {T : Value → World → Prop}
theorem rn_cv_5_3 {x : Operand} {z : Int} (hx : a.eval x = .int .u8 z) (hb : -9223372036854775808 ≤ z ∧ z ≤ 9223372036854775807) (h : T (.int .i64 z) w) : Runs Tryd.prog ⟨dst, .convert 5 3 x, ty, pos, after, g⟩ a w T := by
  refine Runs.value (v := .int .i64 z) (w' := w) ?_ h
  have hw : IntKind.i64.wrap z = z := IntWalk.i64_in _ hb
  simp only [execOp, hx]
  go_simp
end
theorem en_rrn : Enters Tryd.prog 19 := fun args w => by go_simp
set_option maxHeartbeats 8000000 in
theorem run_law (I : Im) (r : Rest) (gp ap kp hp : Option Addr) (gc ac kc hc : Nat) (s : St) (W : Wd) (wp rp cp : Option Addr) (wc rc cc : Nat) (t : Int) (h0 : 0 ≤ t) (h1 : t ≤ 255) (w : World) (hI : ImRows w.heap.size w I gp ap kp gc ac kc) (hIo : I.Ok) (hs : s.Ok) (hWo : W.Ok) (hw : Rw 1 h16 w wp wc W.ws) (hr : Rw 1 h16 w rp rc W.rs) (hc' : Rw 3 clv w cp cc W.cs) (he : EnvN w.heap.size w) :
    Calls Tryd.prog 4 #[.agg #[r.v0, .slice gp I.gs.length gc, .int .i64 I.sens, .int .i64 I.outs, .slice hp I.chans hc, r.v5, .slice ap I.addr.length ac, r.v7, r.v8, r.v9, r.v10, .slice kp I.code.length kc], .agg (stv s ++ ([.slice wp W.ws.length wc, .slice rp W.rs.length rc, .int .i64 W.fl, .slice cp W.cs.length cc] : List Value)).toArray, .int .u8 t] w fun e w' => e = .returned (.bool true) ∧ Grew w w' := by
  obtain ⟨L, rfl⟩ : ∃ L : Nat, t = L := ⟨t.toNat, by omega⟩
  have bL := h1
  clear h0 h1
  have HS := Lib.hid hs
  have HIO := Lib.hid hIo
  have HWO := Lib.hid hWo
  have HRW := Lib.hid hw
  have HRR := Lib.hid hr
  have HRC := Lib.hid hc'
  have HIR := Lib.hid hI
  have HE := Lib.hid he
  obtain ⟨M, hM⟩ : ∃ M, M = w.heap.size := ⟨_, rfl⟩
  rw [← hM] at HE HIR
  have HM := Lib.hid (Nat.le_of_eq hM)
  clear hs hIo hWo hw hr hc' hI he hM
  go_enter Tryd.func4, Tryd.ntmps4
  go_upto_region 0 with fail
  refine wp_region_list ?_
  refine wpList_box_whole rfl _ _ rfl [r.v0, .slice gp I.gs.length gc, .int .i64 I.sens, .int .i64 I.outs, .slice hp I.chans hc, r.v5, .slice ap I.addr.length ac, r.v7, r.v8, r.v9, r.v10, .slice kp I.code.length kc] rfl fun w1 bx g1 => ?_
  simp only [zz1, zz2, zz3, Act.put, mixA, mixL, zz9, zz0, zz4, zz5, zz6]
  refine wpList_box_whole rfl _ _ rfl (stv s ++ ([.slice wp W.ws.length wc, .slice rp W.rs.length rc, .int .i64 W.fl, .slice cp W.cs.length cc] : List Value)) rfl fun w2 bk g2 => ?_
  simp only [zz1, zz2, zz3, Act.put, mixA, mixL, zz9, zz0, zz4, zz5, zz6]
  have HG := Lib.hid (g1.trans g2)
  have HBX := Lib.hid (bx.grew g2)
  have HBK := Lib.hid bk
  generalize w1.heap.size = K at HBK bk ⊢
  generalize w.heap.size = X at HBX ⊢
  clear bx bk g1 g2
  have HEV := Lib.hid (HE.out.grew HG.out)
  go_upto_region 3 with (go_at_call 10; (with_reducible refine (awake_any M _ HEV.out (Nat.le_trans HM.out HG.out.sz)).mono ?_); rintro e w3 ⟨rfl, g3⟩; replace HBX := Lib.hid (HBX.out.grew g3); replace HBK := Lib.hid (HBK.out.grew g3); replace HG := Lib.hid (HG.out.trans g3); clear g3 HEV)
  refine wp_region_list ?_
  refine wpList_runs rfl (some 17) rfl (runs_ldm 28 (ev rfl) (HBX.out.range) Tryd.underlying28 rfl (by rw [sizeI]; rfl) ?_)
  simp only [zz1, zz2, zz3, Act.put, mixA, mixL, zz9, zz0, zz4, zz5, zz6]
  refine wpList_runs rfl (some 18) rfl (rn_fld_39_1 (ev rfl) ?_)
  simp only [zz1, zz2, zz3, Act.put, mixA, mixL, zz9, zz0, zz4, zz5, zz6]
  refine wpList_runs rfl (some 19) rfl (runs_ldm 37 (ev rfl) (case_wd HS.out HBK.out) Tryd.underlying37 rfl (by rw [sizeW]; rfl) ?_)
  simp only [zz1, zz2, zz3, Act.put, mixA, mixL, zz9, zz0, zz4, zz5, zz6]
  refine wpList_runs rfl (some 20) rfl (runs_c2 en_sml (ev rfl) (ev rfl) ((small_any I r gp ap kp hp gc ac kc hc W wp rp cp wc rc cc _).mono ?_))
  rintro e V ⟨b, rfl, hsm, gV⟩
  refine ⟨_, rfl, ?_⟩
  simp only [zz1, zz2, zz3, Act.put, mixA, mixL, zz9, zz0, zz4, zz5, zz6]
  refine wpList_runs rfl (some 21) rfl (runs_nt (ev rfl) ?_)
  simp only [zz1, zz2, zz3, Act.put, mixA, mixL, zz9, zz0, zz4, zz5, zz6]
  replace HBX := Lib.hid (HBX.out.grew gV)
  replace HBK := Lib.hid (HBK.out.grew gV)
  replace HG := Lib.hid (HG.out.trans gV)
  clear gV
  cases b
  case false =>
    go_wp2
    go_ret
    exact ⟨rfl, HG.out⟩
  have HSM := Lib.hid (hsm rfl)
  clear hsm
  obtain ⟨N, hN⟩ : ∃ N, N = V.heap.size := ⟨_, rfl⟩
  have HN : Hid (M ≤ N) := Lib.hid (by have := HM.out; have := HG.out.sz; omega)
  have HNV := Lib.hid hN
  have HEN := Lib.hid ((HE.out.grew HG.out).up HN.out)
  have HIM : Hid (ImgAt N V X I) := Lib.hid ⟨r, gp, ap, kp, hp, gc, ac, kc, hc, HBX.out, (HIR.out.grew HG.out).up HN.out⟩
  have HSW : Hid W.Small := Lib.hid ⟨by have := HSM.out.ws; omega, by have := HSM.out.rs; omega, by have := HSM.out.cs; omega⟩
  have HIRV : Hid (ImRows N V I gp ap kp gc ac kc) := Lib.hid ((HIR.out.grew HG.out).up HN.out)
  clear hN HE HIR HM HN
  go_upto_region 5 with fail
  refine cut_code (fun a0 a2 w2 => ∃ q1 q2 v1 v2, a2 = ((((((((a0.put (some 22) (.pointer (some ⟨K, 73, none⟩))).put (some 23) (.agg #[.slice wp W.ws.length wc, .slice rp W.rs.length rc, .int .i64 W.fl, .slice cp W.cs.length cc])).put (some 24) (v1)).put (some 25) (.pointer (some ⟨K, 73, none⟩))).put (some 26) (.agg #[.slice wp W.ws.length wc, .slice rp W.rs.length rc, .int .i64 W.fl, .slice cp W.cs.length cc])).put (some 27) (v2)).put (some 7) (.pointer (some ⟨q1, 0, none⟩))).put (some 8) (.pointer (some ⟨q2, 0, none⟩))) ∧ Two V.heap.size w2 W q1 q2 ∧ V.heap.size ≤ q1 ∧ V.heap.size ≤ q2 ∧ Grew V w2) ?_ ?_
  · have hgd : Grew V V.drew := (Grew.refl _).drw
    have HGW := HG.out.trans hgd
    have hK := HBK.out.grew hgd
    have hg9 := Grew.refl V.drew
    obtain ⟨B0, hB0⟩ : ∃ B0, B0 = V.heap.size := ⟨_, rfl⟩
    have hBd : B0 = V.drew.heap.size := hB0
    have yld : ∀ (W9 : World), Blk K (stv s ++ ([.slice wp W.ws.length wc, .slice rp W.rs.length rc, .int .i64 W.fl, .slice cp W.cs.length cc] : List Value)) 39 W9 → W9.rangeAt K 73 [.slice wp W.ws.length wc, .slice rp W.rs.length rc, .int .i64 W.fl, .slice cp W.cs.length cc] := fun W9 h => case_wd HS.out h
    refine wp_region_held_drew (S := fun W9 => Blk K (stv s ++ ([.slice wp W.ws.length wc, .slice rp W.rs.length rc, .int .i64 W.fl, .slice cp W.cs.length cc] : List Value)) 39 W9) (by kernel_rfl) hK fun _ => ?_
    refine wpAnyH_take (i := 0) (v := .pointer (some ⟨K, 73, none⟩)) rfl (by kernel_rfl) (by kernel_rfl) (by kernel_rfl) (fun _ _ _ h => nomatch h.1) (Or.inl ⟨by rfl, fun W9 _ => by simp only [execOp]; go_simp⟩) hK ?_
    simp only [zz1, zz2, zz3, Act.put, mixA, mixL, zz9, zz0, zz4, zz5, zz6]
    refine wpAnyH_take (i := 1) (v := .agg #[.slice wp W.ws.length wc, .slice rp W.rs.length rc, .int .i64 W.fl, .slice cp W.cs.length cc]) rfl (by kernel_rfl) (by kernel_rfl) (by kernel_rfl) (fun _ _ _ h => nomatch h.1) (yieldsIf_load_mid (by rfl) 37 (.tmp 22) rfl K 73 rfl [.slice wp W.ws.length wc, .slice rp W.rs.length rc, .int .i64 W.fl, .slice cp W.cs.length cc] _ yld Tryd.underlying37 rfl (by rw [sizeW]; rfl)) hK ?_
    simp only [zz1, zz2, zz3, Act.put, mixA, mixL, zz9, zz0, zz4, zz5, zz6]
    refine wpAnyH_take (i := 3) (v := .pointer (some ⟨K, 73, none⟩)) rfl (by kernel_rfl) (by kernel_rfl) (by kernel_rfl) (fun _ _ _ h => nomatch h.1) (Or.inl ⟨by rfl, fun W9 _ => by simp only [execOp]; go_simp⟩) hK ?_
    simp only [zz1, zz2, zz3, Act.put, mixA, mixL, zz9, zz0, zz4, zz5, zz6]
    refine wpAnyH_take (i := 4) (v := .agg #[.slice wp W.ws.length wc, .slice rp W.rs.length rc, .int .i64 W.fl, .slice cp W.cs.length cc]) rfl (by kernel_rfl) (by kernel_rfl) (by kernel_rfl) (fun _ _ _ h => nomatch h.1) (yieldsIf_load_mid (by rfl) 37 (.tmp 25) rfl K 73 rfl [.slice wp W.ws.length wc, .slice rp W.rs.length rc, .int .i64 W.fl, .slice cp W.cs.length cc] _ yld Tryd.underlying37 rfl (by rw [sizeW]; rfl)) hK ?_
    simp only [zz1, zz2, zz3, Act.put, mixA, mixL, zz9, zz0, zz4, zz5, zz6]
    refine wpAnyH_go [2, 6, 7] (by kernel_rfl) (by simp) ⟨⟨_, rfl, rfl, ?_⟩, ⟨_, rfl, rfl, ?_⟩, ⟨_, rfl, rfl, ?_⟩, trivial⟩
    · refine runs_c1 en_cpy (ev rfl) ((copy_any W wp rp cp wc rc cc _ (HRW.out.kept (HGW.trans hg9)) (HRR.out.kept (HGW.trans hg9)) (HRC.out.kept (HGW.trans hg9)) HSW.out).mono ?_)
      rintro e x1 ⟨p0, p1, p2, pc0, pc1, pc2, rfl, hco1, gx⟩
      have hK2 := hK.grew gx
      have hg2 := hg9.trans gx
      replace hco1 := hco1.down (show V.drew.heap.size ≤ _ from hg9.sz)
      refine ⟨_, rfl, hK2, ?_⟩
      clear hK hg9 gx
      have hK := hK2
      have hg9 := hg2
      clear hK2 hg2
      simp only [zz1, zz2, zz3, Act.put, mixA, mixL, zz9, zz0, zz4, zz5, zz6]
      refine wpAnyH_go [5, 6, 7] (by kernel_rfl) (by simp) ⟨⟨_, rfl, rfl, ?_⟩, ⟨_, rfl, rfl, ?_⟩, ⟨_, rfl, rfl, ?_⟩, trivial⟩
      · refine runs_c1 en_cpy (ev rfl) ((copy_any W wp rp cp wc rc cc _ (HRW.out.kept (HGW.trans hg9)) (HRR.out.kept (HGW.trans hg9)) (HRC.out.kept (HGW.trans hg9)) HSW.out).mono ?_)
        rintro e x2 ⟨r0, r1, r2, rc0, rc1, rc2, rfl, hco2, gx⟩
        have hK2 := hK.grew gx
        have hg2 := hg9.trans gx
        have hco1x := hco1.grew gx
        have hdd : ∀ a b, (p0 = some a ∨ p1 = some a ∨ p2 = some a) → (r0 = some b ∨ r1 = some b ∨ r2 = some b) → a.block ≠ b.block := fun a b ha hb => by have h1 := (hco1.lt a ha).2; have h2 := (hco2.lt b hb).1; omega
        replace hco1 := hco1x
        clear hco1x
        replace hco2 := hco2.down (show V.drew.heap.size ≤ _ from hg9.sz)
        refine ⟨_, rfl, hK2, ?_⟩
        clear hK hg9 gx
        have hK := hK2
        have hg9 := hg2
        clear hK2 hg2
        simp only [zz1, zz2, zz3, Act.put, mixA, mixL, zz9, zz0, zz4, zz5, zz6]
        refine wpAnyH_go [6, 7] (by kernel_rfl) (by simp) ⟨⟨_, rfl, rfl, ?_⟩, ⟨_, rfl, rfl, ?_⟩, trivial⟩
        · refine runs_alw 37 [.slice none 0 0, .slice none 0 0, .int .i64 0, .slice none 0 0] zeroW fun x3 hb1 gx => ?_
          have hK2 := hK.grew gx
          have hg2 := hg9.trans gx
          have hm1 : B0 ≤ x2.heap.size := Nat.le_trans (Nat.le_of_eq hBd) hg9.sz
          replace hco1 := hco1.grew gx
          replace hco2 := hco2.grew gx
          generalize x2.heap.size = q1 at hb1 hm1 ⊢
          refine ⟨hK2, ?_⟩
          clear hK hg9 gx
          have hK := hK2
          have hg9 := hg2
          clear hK2 hg2
          simp only [zz1, zz2, zz3, Act.put, mixA, mixL, zz9, zz0, zz4, zz5, zz6]
          refine wpAnyH_go [7] (by kernel_rfl) (by simp) ⟨⟨_, rfl, rfl, ?_⟩, trivial⟩
          refine runs_alw 37 [.slice none 0 0, .slice none 0 0, .int .i64 0, .slice none 0 0] zeroW fun x4 hb2 gx => ?_
          have hK2 := hK.grew gx
          have hg2 := hg9.trans gx
          have hm2 : B0 ≤ x3.heap.size := Nat.le_trans (Nat.le_of_eq hBd) hg9.sz
          replace hco1 := hco1.grew gx
          replace hco2 := hco2.grew gx
          have hqq : q1 ≠ x3.heap.size := by have := hb1.lt; omega
          replace hb1 := hb1.grew gx
          generalize x3.heap.size = q2 at hb2 hm2 hqq ⊢
          refine ⟨hK2, ?_⟩
          clear hK hg9 gx
          have hK := hK2
          have hg9 := hg2
          clear hK2 hg2
          simp only [zz1, zz2, zz3, Act.put, mixA, mixL, zz9, zz0, zz4, zz5, zz6]
          refine wpAnyH_go [8] (by kernel_rfl) (by simp) ⟨⟨_, rfl, rfl, ?_⟩, trivial⟩
          refine runs_stw 37 (us := [.slice p0 W.ws.length pc0, .slice p1 W.rs.length pc1, .int .i64 W.fl, .slice p2 W.cs.length pc2]) (ev rfl) (ev rfl) hb1 rfl sizeW (fun v hv => by simp only [List.mem_cons, List.not_mem_nil, or_false] at hv; rcases hv with rfl | rfl | rfl | rfl <;> rfl) fun x5 hbx cx => ?_
          have hK2 := hK.chg cx (fun e => by have h1 := hK.ne hb1 (by decide); exact h1 e)
          have hg2 : Grew V.drew x5 := grew_lift hg9 cx fun k hk => by have e : k = q1 := hk; omega
          replace hco1 := hco1.chg cx hb1
          replace hco2 := hco2.chg cx hb1
          replace hb2 := hb2.chg cx (fun e => hqq e.symm)
          replace hb1 := hbx
          refine ⟨hK2, ?_⟩
          clear hK hg9 cx hbx
          have hK := hK2
          have hg9 := hg2
          clear hK2 hg2
          simp only [zz1, zz2, zz3, Act.put, mixA, mixL, zz9, zz0, zz4, zz5, zz6]
          refine wpAnyH_go [9] (by kernel_rfl) (by simp) ⟨⟨_, rfl, rfl, ?_⟩, trivial⟩
          refine runs_stw 37 (us := [.slice r0 W.ws.length rc0, .slice r1 W.rs.length rc1, .int .i64 W.fl, .slice r2 W.cs.length rc2]) (ev rfl) (ev rfl) hb2 rfl sizeW (fun v hv => by simp only [List.mem_cons, List.not_mem_nil, or_false] at hv; rcases hv with rfl | rfl | rfl | rfl <;> rfl) fun x6 hbx cx => ?_
          have hK2 := hK.chg cx (fun e => by have h1 := hK.ne hb2 (by decide); exact h1 e)
          have hg2 : Grew V.drew x6 := grew_lift hg9 cx fun k hk => by have e : k = q2 := hk; omega
          replace hco1 := hco1.chg cx hb2
          replace hco2 := hco2.chg cx hb2
          replace hb1 := hb1.chg cx (fun e => hqq e)
          replace hb2 := hbx
          refine ⟨hK2, ?_⟩
          clear hK hg9 cx hbx
          have hK := hK2
          have hg9 := hg2
          clear hK2 hg2
          simp only [zz1, zz2, zz3, Act.put, mixA, mixL, zz9, zz0, zz4, zz5, zz6]
          refine wpAnyH_done (by kernel_rfl) ?_ _
          exact ⟨rfl, q1, q2, .agg #[.slice p0 W.ws.length pc0, .slice p1 W.rs.length pc1, .int .i64 W.fl, .slice p2 W.cs.length pc2], .agg #[.slice r0 W.ws.length rc0, .slice r1 W.rs.length rc1, .int .i64 W.fl, .slice r2 W.cs.length rc2], by kernel_rfl, Two.of (hco1.down (Nat.le_of_eq (hB0.symm.trans hBd))) (hco2.down (Nat.le_of_eq (hB0.symm.trans hBd))) hdd hb1 hb2 hqq (hB0 ▸ hm1) (hB0 ▸ hm2), hB0 ▸ hm1, hB0 ▸ hm2, hgd.trans hg9⟩
        · refine runs_alw 37 [.slice none 0 0, .slice none 0 0, .int .i64 0, .slice none 0 0] zeroW fun x7 hb2 gx => ?_
          have hK2 := hK.grew gx
          have hg2 := hg9.trans gx
          have hm2 : B0 ≤ x2.heap.size := Nat.le_trans (Nat.le_of_eq hBd) hg9.sz
          replace hco1 := hco1.grew gx
          replace hco2 := hco2.grew gx
          generalize x2.heap.size = q2 at hb2 hm2 ⊢
          refine ⟨hK2, ?_⟩
          clear hK hg9 gx
          have hK := hK2
          have hg9 := hg2
          clear hK2 hg2
          simp only [zz1, zz2, zz3, Act.put, mixA, mixL, zz9, zz0, zz4, zz5, zz6]
          refine wpAnyH_go [6] (by kernel_rfl) (by simp) ⟨⟨_, rfl, rfl, ?_⟩, trivial⟩
          refine runs_alw 37 [.slice none 0 0, .slice none 0 0, .int .i64 0, .slice none 0 0] zeroW fun x8 hb1 gx => ?_
          have hK2 := hK.grew gx
          have hg2 := hg9.trans gx
          have hm1 : B0 ≤ x7.heap.size := Nat.le_trans (Nat.le_of_eq hBd) hg9.sz
          replace hco1 := hco1.grew gx
          replace hco2 := hco2.grew gx
          have hqq : q2 ≠ x7.heap.size := by have := hb2.lt; omega
          replace hb2 := hb2.grew gx
          have hqq := hqq.symm
          generalize x7.heap.size = q1 at hb1 hm1 hqq ⊢
          refine ⟨hK2, ?_⟩
          clear hK hg9 gx
          have hK := hK2
          have hg9 := hg2
          clear hK2 hg2
          simp only [zz1, zz2, zz3, Act.put, mixA, mixL, zz9, zz0, zz4, zz5, zz6]
          refine wpAnyH_go [8] (by kernel_rfl) (by simp) ⟨⟨_, rfl, rfl, ?_⟩, trivial⟩
          refine runs_stw 37 (us := [.slice p0 W.ws.length pc0, .slice p1 W.rs.length pc1, .int .i64 W.fl, .slice p2 W.cs.length pc2]) (ev rfl) (ev rfl) hb1 rfl sizeW (fun v hv => by simp only [List.mem_cons, List.not_mem_nil, or_false] at hv; rcases hv with rfl | rfl | rfl | rfl <;> rfl) fun x9 hbx cx => ?_
          have hK2 := hK.chg cx (fun e => by have h1 := hK.ne hb1 (by decide); exact h1 e)
          have hg2 : Grew V.drew x9 := grew_lift hg9 cx fun k hk => by have e : k = q1 := hk; omega
          replace hco1 := hco1.chg cx hb1
          replace hco2 := hco2.chg cx hb1
          replace hb2 := hb2.chg cx (fun e => hqq e.symm)
          replace hb1 := hbx
          refine ⟨hK2, ?_⟩
          clear hK hg9 cx hbx
          have hK := hK2
          have hg9 := hg2
          clear hK2 hg2
          simp only [zz1, zz2, zz3, Act.put, mixA, mixL, zz9, zz0, zz4, zz5, zz6]
          refine wpAnyH_go [9] (by kernel_rfl) (by simp) ⟨⟨_, rfl, rfl, ?_⟩, trivial⟩
          refine runs_stw 37 (us := [.slice r0 W.ws.length rc0, .slice r1 W.rs.length rc1, .int .i64 W.fl, .slice r2 W.cs.length rc2]) (ev rfl) (ev rfl) hb2 rfl sizeW (fun v hv => by simp only [List.mem_cons, List.not_mem_nil, or_false] at hv; rcases hv with rfl | rfl | rfl | rfl <;> rfl) fun x10 hbx cx => ?_
          have hK2 := hK.chg cx (fun e => by have h1 := hK.ne hb2 (by decide); exact h1 e)
          have hg2 : Grew V.drew x10 := grew_lift hg9 cx fun k hk => by have e : k = q2 := hk; omega
          replace hco1 := hco1.chg cx hb2
          replace hco2 := hco2.chg cx hb2
          replace hb1 := hb1.chg cx (fun e => hqq e)
          replace hb2 := hbx
          refine ⟨hK2, ?_⟩
          clear hK hg9 cx hbx
          have hK := hK2
          have hg9 := hg2
          clear hK2 hg2
          simp only [zz1, zz2, zz3, Act.put, mixA, mixL, zz9, zz0, zz4, zz5, zz6]
          refine wpAnyH_done (by kernel_rfl) ?_ _
          exact ⟨rfl, q1, q2, .agg #[.slice p0 W.ws.length pc0, .slice p1 W.rs.length pc1, .int .i64 W.fl, .slice p2 W.cs.length pc2], .agg #[.slice r0 W.ws.length rc0, .slice r1 W.rs.length rc1, .int .i64 W.fl, .slice r2 W.cs.length rc2], by kernel_rfl, Two.of (hco1.down (Nat.le_of_eq (hB0.symm.trans hBd))) (hco2.down (Nat.le_of_eq (hB0.symm.trans hBd))) hdd hb1 hb2 hqq (hB0 ▸ hm1) (hB0 ▸ hm2), hB0 ▸ hm1, hB0 ▸ hm2, hgd.trans hg9⟩
      · refine runs_alw 37 [.slice none 0 0, .slice none 0 0, .int .i64 0, .slice none 0 0] zeroW fun x11 hb1 gx => ?_
        have hK2 := hK.grew gx
        have hg2 := hg9.trans gx
        have hm1 : B0 ≤ x1.heap.size := Nat.le_trans (Nat.le_of_eq hBd) hg9.sz
        replace hco1 := hco1.grew gx
        generalize x1.heap.size = q1 at hb1 hm1 ⊢
        refine ⟨hK2, ?_⟩
        clear hK hg9 gx
        have hK := hK2
        have hg9 := hg2
        clear hK2 hg2
        simp only [zz1, zz2, zz3, Act.put, mixA, mixL, zz9, zz0, zz4, zz5, zz6]
        refine wpAnyH_go [5, 7] (by kernel_rfl) (by simp) ⟨⟨_, rfl, rfl, ?_⟩, ⟨_, rfl, rfl, ?_⟩, trivial⟩
        · refine runs_c1 en_cpy (ev rfl) ((copy_any W wp rp cp wc rc cc _ (HRW.out.kept (HGW.trans hg9)) (HRR.out.kept (HGW.trans hg9)) (HRC.out.kept (HGW.trans hg9)) HSW.out).mono ?_)
          rintro e x12 ⟨r0, r1, r2, rc0, rc1, rc2, rfl, hco2, gx⟩
          have hK2 := hK.grew gx
          have hg2 := hg9.trans gx
          have hco1x := hco1.grew gx
          replace hb1 := hb1.grew gx
          have hdd : ∀ a b, (p0 = some a ∨ p1 = some a ∨ p2 = some a) → (r0 = some b ∨ r1 = some b ∨ r2 = some b) → a.block ≠ b.block := fun a b ha hb => by have h1 := (hco1.lt a ha).2; have h2 := (hco2.lt b hb).1; omega
          replace hco1 := hco1x
          clear hco1x
          replace hco2 := hco2.down (show V.drew.heap.size ≤ _ from hg9.sz)
          refine ⟨_, rfl, hK2, ?_⟩
          clear hK hg9 gx
          have hK := hK2
          have hg9 := hg2
          clear hK2 hg2
          simp only [zz1, zz2, zz3, Act.put, mixA, mixL, zz9, zz0, zz4, zz5, zz6]
          refine wpAnyH_go [7] (by kernel_rfl) (by simp) ⟨⟨_, rfl, rfl, ?_⟩, trivial⟩
          refine runs_alw 37 [.slice none 0 0, .slice none 0 0, .int .i64 0, .slice none 0 0] zeroW fun x13 hb2 gx => ?_
          have hK2 := hK.grew gx
          have hg2 := hg9.trans gx
          have hm2 : B0 ≤ x12.heap.size := Nat.le_trans (Nat.le_of_eq hBd) hg9.sz
          replace hco1 := hco1.grew gx
          replace hco2 := hco2.grew gx
          have hqq : q1 ≠ x12.heap.size := by have := hb1.lt; omega
          replace hb1 := hb1.grew gx
          generalize x12.heap.size = q2 at hb2 hm2 hqq ⊢
          refine ⟨hK2, ?_⟩
          clear hK hg9 gx
          have hK := hK2
          have hg9 := hg2
          clear hK2 hg2
          simp only [zz1, zz2, zz3, Act.put, mixA, mixL, zz9, zz0, zz4, zz5, zz6]
          refine wpAnyH_go [8] (by kernel_rfl) (by simp) ⟨⟨_, rfl, rfl, ?_⟩, trivial⟩
          refine runs_stw 37 (us := [.slice p0 W.ws.length pc0, .slice p1 W.rs.length pc1, .int .i64 W.fl, .slice p2 W.cs.length pc2]) (ev rfl) (ev rfl) hb1 rfl sizeW (fun v hv => by simp only [List.mem_cons, List.not_mem_nil, or_false] at hv; rcases hv with rfl | rfl | rfl | rfl <;> rfl) fun x14 hbx cx => ?_
          have hK2 := hK.chg cx (fun e => by have h1 := hK.ne hb1 (by decide); exact h1 e)
          have hg2 : Grew V.drew x14 := grew_lift hg9 cx fun k hk => by have e : k = q1 := hk; omega
          replace hco1 := hco1.chg cx hb1
          replace hco2 := hco2.chg cx hb1
          replace hb2 := hb2.chg cx (fun e => hqq e.symm)
          replace hb1 := hbx
          refine ⟨hK2, ?_⟩
          clear hK hg9 cx hbx
          have hK := hK2
          have hg9 := hg2
          clear hK2 hg2
          simp only [zz1, zz2, zz3, Act.put, mixA, mixL, zz9, zz0, zz4, zz5, zz6]
          refine wpAnyH_go [9] (by kernel_rfl) (by simp) ⟨⟨_, rfl, rfl, ?_⟩, trivial⟩
          refine runs_stw 37 (us := [.slice r0 W.ws.length rc0, .slice r1 W.rs.length rc1, .int .i64 W.fl, .slice r2 W.cs.length rc2]) (ev rfl) (ev rfl) hb2 rfl sizeW (fun v hv => by simp only [List.mem_cons, List.not_mem_nil, or_false] at hv; rcases hv with rfl | rfl | rfl | rfl <;> rfl) fun x15 hbx cx => ?_
          have hK2 := hK.chg cx (fun e => by have h1 := hK.ne hb2 (by decide); exact h1 e)
          have hg2 : Grew V.drew x15 := grew_lift hg9 cx fun k hk => by have e : k = q2 := hk; omega
          replace hco1 := hco1.chg cx hb2
          replace hco2 := hco2.chg cx hb2
          replace hb1 := hb1.chg cx (fun e => hqq e)
          replace hb2 := hbx
          refine ⟨hK2, ?_⟩
          clear hK hg9 cx hbx
          have hK := hK2
          have hg9 := hg2
          clear hK2 hg2
          simp only [zz1, zz2, zz3, Act.put, mixA, mixL, zz9, zz0, zz4, zz5, zz6]
          refine wpAnyH_done (by kernel_rfl) ?_ _
          exact ⟨rfl, q1, q2, .agg #[.slice p0 W.ws.length pc0, .slice p1 W.rs.length pc1, .int .i64 W.fl, .slice p2 W.cs.length pc2], .agg #[.slice r0 W.ws.length rc0, .slice r1 W.rs.length rc1, .int .i64 W.fl, .slice r2 W.cs.length rc2], by kernel_rfl, Two.of (hco1.down (Nat.le_of_eq (hB0.symm.trans hBd))) (hco2.down (Nat.le_of_eq (hB0.symm.trans hBd))) hdd hb1 hb2 hqq (hB0 ▸ hm1) (hB0 ▸ hm2), hB0 ▸ hm1, hB0 ▸ hm2, hgd.trans hg9⟩
        · refine runs_alw 37 [.slice none 0 0, .slice none 0 0, .int .i64 0, .slice none 0 0] zeroW fun x16 hb2 gx => ?_
          have hK2 := hK.grew gx
          have hg2 := hg9.trans gx
          have hm2 : B0 ≤ x11.heap.size := Nat.le_trans (Nat.le_of_eq hBd) hg9.sz
          replace hco1 := hco1.grew gx
          have hqq : q1 ≠ x11.heap.size := by have := hb1.lt; omega
          replace hb1 := hb1.grew gx
          generalize x11.heap.size = q2 at hb2 hm2 hqq ⊢
          refine ⟨hK2, ?_⟩
          clear hK hg9 gx
          have hK := hK2
          have hg9 := hg2
          clear hK2 hg2
          simp only [zz1, zz2, zz3, Act.put, mixA, mixL, zz9, zz0, zz4, zz5, zz6]
          refine wpAnyH_go [5] (by kernel_rfl) (by simp) ⟨⟨_, rfl, rfl, ?_⟩, trivial⟩
          refine runs_c1 en_cpy (ev rfl) ((copy_any W wp rp cp wc rc cc _ (HRW.out.kept (HGW.trans hg9)) (HRR.out.kept (HGW.trans hg9)) (HRC.out.kept (HGW.trans hg9)) HSW.out).mono ?_)
          rintro e x17 ⟨r0, r1, r2, rc0, rc1, rc2, rfl, hco2, gx⟩
          have hK2 := hK.grew gx
          have hg2 := hg9.trans gx
          have hco1x := hco1.grew gx
          replace hb1 := hb1.grew gx
          replace hb2 := hb2.grew gx
          have hdd : ∀ a b, (p0 = some a ∨ p1 = some a ∨ p2 = some a) → (r0 = some b ∨ r1 = some b ∨ r2 = some b) → a.block ≠ b.block := fun a b ha hb => by have h1 := (hco1.lt a ha).2; have h2 := (hco2.lt b hb).1; omega
          replace hco1 := hco1x
          clear hco1x
          replace hco2 := hco2.down (show V.drew.heap.size ≤ _ from hg9.sz)
          refine ⟨_, rfl, hK2, ?_⟩
          clear hK hg9 gx
          have hK := hK2
          have hg9 := hg2
          clear hK2 hg2
          simp only [zz1, zz2, zz3, Act.put, mixA, mixL, zz9, zz0, zz4, zz5, zz6]
          refine wpAnyH_go [8] (by kernel_rfl) (by simp) ⟨⟨_, rfl, rfl, ?_⟩, trivial⟩
          refine runs_stw 37 (us := [.slice p0 W.ws.length pc0, .slice p1 W.rs.length pc1, .int .i64 W.fl, .slice p2 W.cs.length pc2]) (ev rfl) (ev rfl) hb1 rfl sizeW (fun v hv => by simp only [List.mem_cons, List.not_mem_nil, or_false] at hv; rcases hv with rfl | rfl | rfl | rfl <;> rfl) fun x18 hbx cx => ?_
          have hK2 := hK.chg cx (fun e => by have h1 := hK.ne hb1 (by decide); exact h1 e)
          have hg2 : Grew V.drew x18 := grew_lift hg9 cx fun k hk => by have e : k = q1 := hk; omega
          replace hco1 := hco1.chg cx hb1
          replace hco2 := hco2.chg cx hb1
          replace hb2 := hb2.chg cx (fun e => hqq e.symm)
          replace hb1 := hbx
          refine ⟨hK2, ?_⟩
          clear hK hg9 cx hbx
          have hK := hK2
          have hg9 := hg2
          clear hK2 hg2
          simp only [zz1, zz2, zz3, Act.put, mixA, mixL, zz9, zz0, zz4, zz5, zz6]
          refine wpAnyH_go [9] (by kernel_rfl) (by simp) ⟨⟨_, rfl, rfl, ?_⟩, trivial⟩
          refine runs_stw 37 (us := [.slice r0 W.ws.length rc0, .slice r1 W.rs.length rc1, .int .i64 W.fl, .slice r2 W.cs.length rc2]) (ev rfl) (ev rfl) hb2 rfl sizeW (fun v hv => by simp only [List.mem_cons, List.not_mem_nil, or_false] at hv; rcases hv with rfl | rfl | rfl | rfl <;> rfl) fun x19 hbx cx => ?_
          have hK2 := hK.chg cx (fun e => by have h1 := hK.ne hb2 (by decide); exact h1 e)
          have hg2 : Grew V.drew x19 := grew_lift hg9 cx fun k hk => by have e : k = q2 := hk; omega
          replace hco1 := hco1.chg cx hb2
          replace hco2 := hco2.chg cx hb2
          replace hb1 := hb1.chg cx (fun e => hqq e)
          replace hb2 := hbx
          refine ⟨hK2, ?_⟩
          clear hK hg9 cx hbx
          have hK := hK2
          have hg9 := hg2
          clear hK2 hg2
          simp only [zz1, zz2, zz3, Act.put, mixA, mixL, zz9, zz0, zz4, zz5, zz6]
          refine wpAnyH_done (by kernel_rfl) ?_ _
          exact ⟨rfl, q1, q2, .agg #[.slice p0 W.ws.length pc0, .slice p1 W.rs.length pc1, .int .i64 W.fl, .slice p2 W.cs.length pc2], .agg #[.slice r0 W.ws.length rc0, .slice r1 W.rs.length rc1, .int .i64 W.fl, .slice r2 W.cs.length rc2], by kernel_rfl, Two.of (hco1.down (Nat.le_of_eq (hB0.symm.trans hBd))) (hco2.down (Nat.le_of_eq (hB0.symm.trans hBd))) hdd hb1 hb2 hqq (hB0 ▸ hm1) (hB0 ▸ hm2), hB0 ▸ hm1, hB0 ▸ hm2, hgd.trans hg9⟩
      · refine runs_alw 37 [.slice none 0 0, .slice none 0 0, .int .i64 0, .slice none 0 0] zeroW fun x20 hb2 gx => ?_
        have hK2 := hK.grew gx
        have hg2 := hg9.trans gx
        have hm2 : B0 ≤ x1.heap.size := Nat.le_trans (Nat.le_of_eq hBd) hg9.sz
        replace hco1 := hco1.grew gx
        generalize x1.heap.size = q2 at hb2 hm2 ⊢
        refine ⟨hK2, ?_⟩
        clear hK hg9 gx
        have hK := hK2
        have hg9 := hg2
        clear hK2 hg2
        simp only [zz1, zz2, zz3, Act.put, mixA, mixL, zz9, zz0, zz4, zz5, zz6]
        refine wpAnyH_go [5, 6] (by kernel_rfl) (by simp) ⟨⟨_, rfl, rfl, ?_⟩, ⟨_, rfl, rfl, ?_⟩, trivial⟩
        · refine runs_c1 en_cpy (ev rfl) ((copy_any W wp rp cp wc rc cc _ (HRW.out.kept (HGW.trans hg9)) (HRR.out.kept (HGW.trans hg9)) (HRC.out.kept (HGW.trans hg9)) HSW.out).mono ?_)
          rintro e x21 ⟨r0, r1, r2, rc0, rc1, rc2, rfl, hco2, gx⟩
          have hK2 := hK.grew gx
          have hg2 := hg9.trans gx
          have hco1x := hco1.grew gx
          replace hb2 := hb2.grew gx
          have hdd : ∀ a b, (p0 = some a ∨ p1 = some a ∨ p2 = some a) → (r0 = some b ∨ r1 = some b ∨ r2 = some b) → a.block ≠ b.block := fun a b ha hb => by have h1 := (hco1.lt a ha).2; have h2 := (hco2.lt b hb).1; omega
          replace hco1 := hco1x
          clear hco1x
          replace hco2 := hco2.down (show V.drew.heap.size ≤ _ from hg9.sz)
          refine ⟨_, rfl, hK2, ?_⟩
          clear hK hg9 gx
          have hK := hK2
          have hg9 := hg2
          clear hK2 hg2
          simp only [zz1, zz2, zz3, Act.put, mixA, mixL, zz9, zz0, zz4, zz5, zz6]
          refine wpAnyH_go [6] (by kernel_rfl) (by simp) ⟨⟨_, rfl, rfl, ?_⟩, trivial⟩
          refine runs_alw 37 [.slice none 0 0, .slice none 0 0, .int .i64 0, .slice none 0 0] zeroW fun x22 hb1 gx => ?_
          have hK2 := hK.grew gx
          have hg2 := hg9.trans gx
          have hm1 : B0 ≤ x21.heap.size := Nat.le_trans (Nat.le_of_eq hBd) hg9.sz
          replace hco1 := hco1.grew gx
          replace hco2 := hco2.grew gx
          have hqq : q2 ≠ x21.heap.size := by have := hb2.lt; omega
          replace hb2 := hb2.grew gx
          have hqq := hqq.symm
          generalize x21.heap.size = q1 at hb1 hm1 hqq ⊢
          refine ⟨hK2, ?_⟩
          clear hK hg9 gx
          have hK := hK2
          have hg9 := hg2
          clear hK2 hg2
          simp only [zz1, zz2, zz3, Act.put, mixA, mixL, zz9, zz0, zz4, zz5, zz6]
          refine wpAnyH_go [8] (by kernel_rfl) (by simp) ⟨⟨_, rfl, rfl, ?_⟩, trivial⟩
          refine runs_stw 37 (us := [.slice p0 W.ws.length pc0, .slice p1 W.rs.length pc1, .int .i64 W.fl, .slice p2 W.cs.length pc2]) (ev rfl) (ev rfl) hb1 rfl sizeW (fun v hv => by simp only [List.mem_cons, List.not_mem_nil, or_false] at hv; rcases hv with rfl | rfl | rfl | rfl <;> rfl) fun x23 hbx cx => ?_
          have hK2 := hK.chg cx (fun e => by have h1 := hK.ne hb1 (by decide); exact h1 e)
          have hg2 : Grew V.drew x23 := grew_lift hg9 cx fun k hk => by have e : k = q1 := hk; omega
          replace hco1 := hco1.chg cx hb1
          replace hco2 := hco2.chg cx hb1
          replace hb2 := hb2.chg cx (fun e => hqq e.symm)
          replace hb1 := hbx
          refine ⟨hK2, ?_⟩
          clear hK hg9 cx hbx
          have hK := hK2
          have hg9 := hg2
          clear hK2 hg2
          simp only [zz1, zz2, zz3, Act.put, mixA, mixL, zz9, zz0, zz4, zz5, zz6]
          refine wpAnyH_go [9] (by kernel_rfl) (by simp) ⟨⟨_, rfl, rfl, ?_⟩, trivial⟩
          refine runs_stw 37 (us := [.slice r0 W.ws.length rc0, .slice r1 W.rs.length rc1, .int .i64 W.fl, .slice r2 W.cs.length rc2]) (ev rfl) (ev rfl) hb2 rfl sizeW (fun v hv => by simp only [List.mem_cons, List.not_mem_nil, or_false] at hv; rcases hv with rfl | rfl | rfl | rfl <;> rfl) fun x24 hbx cx => ?_
          have hK2 := hK.chg cx (fun e => by have h1 := hK.ne hb2 (by decide); exact h1 e)
          have hg2 : Grew V.drew x24 := grew_lift hg9 cx fun k hk => by have e : k = q2 := hk; omega
          replace hco1 := hco1.chg cx hb2
          replace hco2 := hco2.chg cx hb2
          replace hb1 := hb1.chg cx (fun e => hqq e)
          replace hb2 := hbx
          refine ⟨hK2, ?_⟩
          clear hK hg9 cx hbx
          have hK := hK2
          have hg9 := hg2
          clear hK2 hg2
          simp only [zz1, zz2, zz3, Act.put, mixA, mixL, zz9, zz0, zz4, zz5, zz6]
          refine wpAnyH_done (by kernel_rfl) ?_ _
          exact ⟨rfl, q1, q2, .agg #[.slice p0 W.ws.length pc0, .slice p1 W.rs.length pc1, .int .i64 W.fl, .slice p2 W.cs.length pc2], .agg #[.slice r0 W.ws.length rc0, .slice r1 W.rs.length rc1, .int .i64 W.fl, .slice r2 W.cs.length rc2], by kernel_rfl, Two.of (hco1.down (Nat.le_of_eq (hB0.symm.trans hBd))) (hco2.down (Nat.le_of_eq (hB0.symm.trans hBd))) hdd hb1 hb2 hqq (hB0 ▸ hm1) (hB0 ▸ hm2), hB0 ▸ hm1, hB0 ▸ hm2, hgd.trans hg9⟩
        · refine runs_alw 37 [.slice none 0 0, .slice none 0 0, .int .i64 0, .slice none 0 0] zeroW fun x25 hb1 gx => ?_
          have hK2 := hK.grew gx
          have hg2 := hg9.trans gx
          have hm1 : B0 ≤ x20.heap.size := Nat.le_trans (Nat.le_of_eq hBd) hg9.sz
          replace hco1 := hco1.grew gx
          have hqq : q2 ≠ x20.heap.size := by have := hb2.lt; omega
          replace hb2 := hb2.grew gx
          have hqq := hqq.symm
          generalize x20.heap.size = q1 at hb1 hm1 hqq ⊢
          refine ⟨hK2, ?_⟩
          clear hK hg9 gx
          have hK := hK2
          have hg9 := hg2
          clear hK2 hg2
          simp only [zz1, zz2, zz3, Act.put, mixA, mixL, zz9, zz0, zz4, zz5, zz6]
          refine wpAnyH_go [5] (by kernel_rfl) (by simp) ⟨⟨_, rfl, rfl, ?_⟩, trivial⟩
          refine runs_c1 en_cpy (ev rfl) ((copy_any W wp rp cp wc rc cc _ (HRW.out.kept (HGW.trans hg9)) (HRR.out.kept (HGW.trans hg9)) (HRC.out.kept (HGW.trans hg9)) HSW.out).mono ?_)
          rintro e x26 ⟨r0, r1, r2, rc0, rc1, rc2, rfl, hco2, gx⟩
          have hK2 := hK.grew gx
          have hg2 := hg9.trans gx
          have hco1x := hco1.grew gx
          replace hb1 := hb1.grew gx
          replace hb2 := hb2.grew gx
          have hdd : ∀ a b, (p0 = some a ∨ p1 = some a ∨ p2 = some a) → (r0 = some b ∨ r1 = some b ∨ r2 = some b) → a.block ≠ b.block := fun a b ha hb => by have h1 := (hco1.lt a ha).2; have h2 := (hco2.lt b hb).1; omega
          replace hco1 := hco1x
          clear hco1x
          replace hco2 := hco2.down (show V.drew.heap.size ≤ _ from hg9.sz)
          refine ⟨_, rfl, hK2, ?_⟩
          clear hK hg9 gx
          have hK := hK2
          have hg9 := hg2
          clear hK2 hg2
          simp only [zz1, zz2, zz3, Act.put, mixA, mixL, zz9, zz0, zz4, zz5, zz6]
          refine wpAnyH_go [8] (by kernel_rfl) (by simp) ⟨⟨_, rfl, rfl, ?_⟩, trivial⟩
          refine runs_stw 37 (us := [.slice p0 W.ws.length pc0, .slice p1 W.rs.length pc1, .int .i64 W.fl, .slice p2 W.cs.length pc2]) (ev rfl) (ev rfl) hb1 rfl sizeW (fun v hv => by simp only [List.mem_cons, List.not_mem_nil, or_false] at hv; rcases hv with rfl | rfl | rfl | rfl <;> rfl) fun x27 hbx cx => ?_
          have hK2 := hK.chg cx (fun e => by have h1 := hK.ne hb1 (by decide); exact h1 e)
          have hg2 : Grew V.drew x27 := grew_lift hg9 cx fun k hk => by have e : k = q1 := hk; omega
          replace hco1 := hco1.chg cx hb1
          replace hco2 := hco2.chg cx hb1
          replace hb2 := hb2.chg cx (fun e => hqq e.symm)
          replace hb1 := hbx
          refine ⟨hK2, ?_⟩
          clear hK hg9 cx hbx
          have hK := hK2
          have hg9 := hg2
          clear hK2 hg2
          simp only [zz1, zz2, zz3, Act.put, mixA, mixL, zz9, zz0, zz4, zz5, zz6]
          refine wpAnyH_go [9] (by kernel_rfl) (by simp) ⟨⟨_, rfl, rfl, ?_⟩, trivial⟩
          refine runs_stw 37 (us := [.slice r0 W.ws.length rc0, .slice r1 W.rs.length rc1, .int .i64 W.fl, .slice r2 W.cs.length rc2]) (ev rfl) (ev rfl) hb2 rfl sizeW (fun v hv => by simp only [List.mem_cons, List.not_mem_nil, or_false] at hv; rcases hv with rfl | rfl | rfl | rfl <;> rfl) fun x28 hbx cx => ?_
          have hK2 := hK.chg cx (fun e => by have h1 := hK.ne hb2 (by decide); exact h1 e)
          have hg2 : Grew V.drew x28 := grew_lift hg9 cx fun k hk => by have e : k = q2 := hk; omega
          replace hco1 := hco1.chg cx hb2
          replace hco2 := hco2.chg cx hb2
          replace hb1 := hb1.chg cx (fun e => hqq e)
          replace hb2 := hbx
          refine ⟨hK2, ?_⟩
          clear hK hg9 cx hbx
          have hK := hK2
          have hg9 := hg2
          clear hK2 hg2
          simp only [zz1, zz2, zz3, Act.put, mixA, mixL, zz9, zz0, zz4, zz5, zz6]
          refine wpAnyH_done (by kernel_rfl) ?_ _
          exact ⟨rfl, q1, q2, .agg #[.slice p0 W.ws.length pc0, .slice p1 W.rs.length pc1, .int .i64 W.fl, .slice p2 W.cs.length pc2], .agg #[.slice r0 W.ws.length rc0, .slice r1 W.rs.length rc1, .int .i64 W.fl, .slice r2 W.cs.length rc2], by kernel_rfl, Two.of (hco1.down (Nat.le_of_eq (hB0.symm.trans hBd))) (hco2.down (Nat.le_of_eq (hB0.symm.trans hBd))) hdd hb1 hb2 hqq (hB0 ▸ hm1) (hB0 ▸ hm2), hB0 ▸ hm1, hB0 ▸ hm2, hgd.trans hg9⟩
    · refine runs_alw 37 [.slice none 0 0, .slice none 0 0, .int .i64 0, .slice none 0 0] zeroW fun x29 hb1 gx => ?_
      have hK2 := hK.grew gx
      have hg2 := hg9.trans gx
      have hm1 : B0 ≤ V.drew.heap.size := Nat.le_trans (Nat.le_of_eq hBd) hg9.sz
      generalize V.drew.heap.size = q1 at hb1 hm1 ⊢
      refine ⟨hK2, ?_⟩
      clear hK hg9 gx
      have hK := hK2
      have hg9 := hg2
      clear hK2 hg2
      simp only [zz1, zz2, zz3, Act.put, mixA, mixL, zz9, zz0, zz4, zz5, zz6]
      refine wpAnyH_go [2, 7] (by kernel_rfl) (by simp) ⟨⟨_, rfl, rfl, ?_⟩, ⟨_, rfl, rfl, ?_⟩, trivial⟩
      · refine runs_c1 en_cpy (ev rfl) ((copy_any W wp rp cp wc rc cc _ (HRW.out.kept (HGW.trans hg9)) (HRR.out.kept (HGW.trans hg9)) (HRC.out.kept (HGW.trans hg9)) HSW.out).mono ?_)
        rintro e x30 ⟨p0, p1, p2, pc0, pc1, pc2, rfl, hco1, gx⟩
        have hK2 := hK.grew gx
        have hg2 := hg9.trans gx
        replace hb1 := hb1.grew gx
        replace hco1 := hco1.down (show V.drew.heap.size ≤ _ from hg9.sz)
        refine ⟨_, rfl, hK2, ?_⟩
        clear hK hg9 gx
        have hK := hK2
        have hg9 := hg2
        clear hK2 hg2
        simp only [zz1, zz2, zz3, Act.put, mixA, mixL, zz9, zz0, zz4, zz5, zz6]
        refine wpAnyH_go [5, 7] (by kernel_rfl) (by simp) ⟨⟨_, rfl, rfl, ?_⟩, ⟨_, rfl, rfl, ?_⟩, trivial⟩
        · refine runs_c1 en_cpy (ev rfl) ((copy_any W wp rp cp wc rc cc _ (HRW.out.kept (HGW.trans hg9)) (HRR.out.kept (HGW.trans hg9)) (HRC.out.kept (HGW.trans hg9)) HSW.out).mono ?_)
          rintro e x31 ⟨r0, r1, r2, rc0, rc1, rc2, rfl, hco2, gx⟩
          have hK2 := hK.grew gx
          have hg2 := hg9.trans gx
          have hco1x := hco1.grew gx
          replace hb1 := hb1.grew gx
          have hdd : ∀ a b, (p0 = some a ∨ p1 = some a ∨ p2 = some a) → (r0 = some b ∨ r1 = some b ∨ r2 = some b) → a.block ≠ b.block := fun a b ha hb => by have h1 := (hco1.lt a ha).2; have h2 := (hco2.lt b hb).1; omega
          replace hco1 := hco1x
          clear hco1x
          replace hco2 := hco2.down (show V.drew.heap.size ≤ _ from hg9.sz)
          refine ⟨_, rfl, hK2, ?_⟩
          clear hK hg9 gx
          have hK := hK2
          have hg9 := hg2
          clear hK2 hg2
          simp only [zz1, zz2, zz3, Act.put, mixA, mixL, zz9, zz0, zz4, zz5, zz6]
          refine wpAnyH_go [7] (by kernel_rfl) (by simp) ⟨⟨_, rfl, rfl, ?_⟩, trivial⟩
          refine runs_alw 37 [.slice none 0 0, .slice none 0 0, .int .i64 0, .slice none 0 0] zeroW fun x32 hb2 gx => ?_
          have hK2 := hK.grew gx
          have hg2 := hg9.trans gx
          have hm2 : B0 ≤ x31.heap.size := Nat.le_trans (Nat.le_of_eq hBd) hg9.sz
          replace hco1 := hco1.grew gx
          replace hco2 := hco2.grew gx
          have hqq : q1 ≠ x31.heap.size := by have := hb1.lt; omega
          replace hb1 := hb1.grew gx
          generalize x31.heap.size = q2 at hb2 hm2 hqq ⊢
          refine ⟨hK2, ?_⟩
          clear hK hg9 gx
          have hK := hK2
          have hg9 := hg2
          clear hK2 hg2
          simp only [zz1, zz2, zz3, Act.put, mixA, mixL, zz9, zz0, zz4, zz5, zz6]
          refine wpAnyH_go [8] (by kernel_rfl) (by simp) ⟨⟨_, rfl, rfl, ?_⟩, trivial⟩
          refine runs_stw 37 (us := [.slice p0 W.ws.length pc0, .slice p1 W.rs.length pc1, .int .i64 W.fl, .slice p2 W.cs.length pc2]) (ev rfl) (ev rfl) hb1 rfl sizeW (fun v hv => by simp only [List.mem_cons, List.not_mem_nil, or_false] at hv; rcases hv with rfl | rfl | rfl | rfl <;> rfl) fun x33 hbx cx => ?_
          have hK2 := hK.chg cx (fun e => by have h1 := hK.ne hb1 (by decide); exact h1 e)
          have hg2 : Grew V.drew x33 := grew_lift hg9 cx fun k hk => by have e : k = q1 := hk; omega
          replace hco1 := hco1.chg cx hb1
          replace hco2 := hco2.chg cx hb1
          replace hb2 := hb2.chg cx (fun e => hqq e.symm)
          replace hb1 := hbx
          refine ⟨hK2, ?_⟩
          clear hK hg9 cx hbx
          have hK := hK2
          have hg9 := hg2
          clear hK2 hg2
          simp only [zz1, zz2, zz3, Act.put, mixA, mixL, zz9, zz0, zz4, zz5, zz6]
          refine wpAnyH_go [9] (by kernel_rfl) (by simp) ⟨⟨_, rfl, rfl, ?_⟩, trivial⟩
          refine runs_stw 37 (us := [.slice r0 W.ws.length rc0, .slice r1 W.rs.length rc1, .int .i64 W.fl, .slice r2 W.cs.length rc2]) (ev rfl) (ev rfl) hb2 rfl sizeW (fun v hv => by simp only [List.mem_cons, List.not_mem_nil, or_false] at hv; rcases hv with rfl | rfl | rfl | rfl <;> rfl) fun x34 hbx cx => ?_
          have hK2 := hK.chg cx (fun e => by have h1 := hK.ne hb2 (by decide); exact h1 e)
          have hg2 : Grew V.drew x34 := grew_lift hg9 cx fun k hk => by have e : k = q2 := hk; omega
          replace hco1 := hco1.chg cx hb2
          replace hco2 := hco2.chg cx hb2
          replace hb1 := hb1.chg cx (fun e => hqq e)
          replace hb2 := hbx
          refine ⟨hK2, ?_⟩
          clear hK hg9 cx hbx
          have hK := hK2
          have hg9 := hg2
          clear hK2 hg2
          simp only [zz1, zz2, zz3, Act.put, mixA, mixL, zz9, zz0, zz4, zz5, zz6]
          refine wpAnyH_done (by kernel_rfl) ?_ _
          exact ⟨rfl, q1, q2, .agg #[.slice p0 W.ws.length pc0, .slice p1 W.rs.length pc1, .int .i64 W.fl, .slice p2 W.cs.length pc2], .agg #[.slice r0 W.ws.length rc0, .slice r1 W.rs.length rc1, .int .i64 W.fl, .slice r2 W.cs.length rc2], by kernel_rfl, Two.of (hco1.down (Nat.le_of_eq (hB0.symm.trans hBd))) (hco2.down (Nat.le_of_eq (hB0.symm.trans hBd))) hdd hb1 hb2 hqq (hB0 ▸ hm1) (hB0 ▸ hm2), hB0 ▸ hm1, hB0 ▸ hm2, hgd.trans hg9⟩
        · refine runs_alw 37 [.slice none 0 0, .slice none 0 0, .int .i64 0, .slice none 0 0] zeroW fun x35 hb2 gx => ?_
          have hK2 := hK.grew gx
          have hg2 := hg9.trans gx
          have hm2 : B0 ≤ x30.heap.size := Nat.le_trans (Nat.le_of_eq hBd) hg9.sz
          replace hco1 := hco1.grew gx
          have hqq : q1 ≠ x30.heap.size := by have := hb1.lt; omega
          replace hb1 := hb1.grew gx
          generalize x30.heap.size = q2 at hb2 hm2 hqq ⊢
          refine ⟨hK2, ?_⟩
          clear hK hg9 gx
          have hK := hK2
          have hg9 := hg2
          clear hK2 hg2
          simp only [zz1, zz2, zz3, Act.put, mixA, mixL, zz9, zz0, zz4, zz5, zz6]
          refine wpAnyH_go [5] (by kernel_rfl) (by simp) ⟨⟨_, rfl, rfl, ?_⟩, trivial⟩
          refine runs_c1 en_cpy (ev rfl) ((copy_any W wp rp cp wc rc cc _ (HRW.out.kept (HGW.trans hg9)) (HRR.out.kept (HGW.trans hg9)) (HRC.out.kept (HGW.trans hg9)) HSW.out).mono ?_)
          rintro e x36 ⟨r0, r1, r2, rc0, rc1, rc2, rfl, hco2, gx⟩
          have hK2 := hK.grew gx
          have hg2 := hg9.trans gx
          have hco1x := hco1.grew gx
          replace hb1 := hb1.grew gx
          replace hb2 := hb2.grew gx
          have hdd : ∀ a b, (p0 = some a ∨ p1 = some a ∨ p2 = some a) → (r0 = some b ∨ r1 = some b ∨ r2 = some b) → a.block ≠ b.block := fun a b ha hb => by have h1 := (hco1.lt a ha).2; have h2 := (hco2.lt b hb).1; omega
          replace hco1 := hco1x
          clear hco1x
          replace hco2 := hco2.down (show V.drew.heap.size ≤ _ from hg9.sz)
          refine ⟨_, rfl, hK2, ?_⟩
          clear hK hg9 gx
          have hK := hK2
          have hg9 := hg2
          clear hK2 hg2
          simp only [zz1, zz2, zz3, Act.put, mixA, mixL, zz9, zz0, zz4, zz5, zz6]
          refine wpAnyH_go [8] (by kernel_rfl) (by simp) ⟨⟨_, rfl, rfl, ?_⟩, trivial⟩
          refine runs_stw 37 (us := [.slice p0 W.ws.length pc0, .slice p1 W.rs.length pc1, .int .i64 W.fl, .slice p2 W.cs.length pc2]) (ev rfl) (ev rfl) hb1 rfl sizeW (fun v hv => by simp only [List.mem_cons, List.not_mem_nil, or_false] at hv; rcases hv with rfl | rfl | rfl | rfl <;> rfl) fun x37 hbx cx => ?_
          have hK2 := hK.chg cx (fun e => by have h1 := hK.ne hb1 (by decide); exact h1 e)
          have hg2 : Grew V.drew x37 := grew_lift hg9 cx fun k hk => by have e : k = q1 := hk; omega
          replace hco1 := hco1.chg cx hb1
          replace hco2 := hco2.chg cx hb1
          replace hb2 := hb2.chg cx (fun e => hqq e.symm)
          replace hb1 := hbx
          refine ⟨hK2, ?_⟩
          clear hK hg9 cx hbx
          have hK := hK2
          have hg9 := hg2
          clear hK2 hg2
          simp only [zz1, zz2, zz3, Act.put, mixA, mixL, zz9, zz0, zz4, zz5, zz6]
          refine wpAnyH_go [9] (by kernel_rfl) (by simp) ⟨⟨_, rfl, rfl, ?_⟩, trivial⟩
          refine runs_stw 37 (us := [.slice r0 W.ws.length rc0, .slice r1 W.rs.length rc1, .int .i64 W.fl, .slice r2 W.cs.length rc2]) (ev rfl) (ev rfl) hb2 rfl sizeW (fun v hv => by simp only [List.mem_cons, List.not_mem_nil, or_false] at hv; rcases hv with rfl | rfl | rfl | rfl <;> rfl) fun x38 hbx cx => ?_
          have hK2 := hK.chg cx (fun e => by have h1 := hK.ne hb2 (by decide); exact h1 e)
          have hg2 : Grew V.drew x38 := grew_lift hg9 cx fun k hk => by have e : k = q2 := hk; omega
          replace hco1 := hco1.chg cx hb2
          replace hco2 := hco2.chg cx hb2
          replace hb1 := hb1.chg cx (fun e => hqq e)
          replace hb2 := hbx
          refine ⟨hK2, ?_⟩
          clear hK hg9 cx hbx
          have hK := hK2
          have hg9 := hg2
          clear hK2 hg2
          simp only [zz1, zz2, zz3, Act.put, mixA, mixL, zz9, zz0, zz4, zz5, zz6]
          refine wpAnyH_done (by kernel_rfl) ?_ _
          exact ⟨rfl, q1, q2, .agg #[.slice p0 W.ws.length pc0, .slice p1 W.rs.length pc1, .int .i64 W.fl, .slice p2 W.cs.length pc2], .agg #[.slice r0 W.ws.length rc0, .slice r1 W.rs.length rc1, .int .i64 W.fl, .slice r2 W.cs.length rc2], by kernel_rfl, Two.of (hco1.down (Nat.le_of_eq (hB0.symm.trans hBd))) (hco2.down (Nat.le_of_eq (hB0.symm.trans hBd))) hdd hb1 hb2 hqq (hB0 ▸ hm1) (hB0 ▸ hm2), hB0 ▸ hm1, hB0 ▸ hm2, hgd.trans hg9⟩
      · refine runs_alw 37 [.slice none 0 0, .slice none 0 0, .int .i64 0, .slice none 0 0] zeroW fun x39 hb2 gx => ?_
        have hK2 := hK.grew gx
        have hg2 := hg9.trans gx
        have hm2 : B0 ≤ x29.heap.size := Nat.le_trans (Nat.le_of_eq hBd) hg9.sz
        have hqq : q1 ≠ x29.heap.size := by have := hb1.lt; omega
        replace hb1 := hb1.grew gx
        generalize x29.heap.size = q2 at hb2 hm2 hqq ⊢
        refine ⟨hK2, ?_⟩
        clear hK hg9 gx
        have hK := hK2
        have hg9 := hg2
        clear hK2 hg2
        simp only [zz1, zz2, zz3, Act.put, mixA, mixL, zz9, zz0, zz4, zz5, zz6]
        refine wpAnyH_go [2] (by kernel_rfl) (by simp) ⟨⟨_, rfl, rfl, ?_⟩, trivial⟩
        refine runs_c1 en_cpy (ev rfl) ((copy_any W wp rp cp wc rc cc _ (HRW.out.kept (HGW.trans hg9)) (HRR.out.kept (HGW.trans hg9)) (HRC.out.kept (HGW.trans hg9)) HSW.out).mono ?_)
        rintro e x40 ⟨p0, p1, p2, pc0, pc1, pc2, rfl, hco1, gx⟩
        have hK2 := hK.grew gx
        have hg2 := hg9.trans gx
        replace hb1 := hb1.grew gx
        replace hb2 := hb2.grew gx
        replace hco1 := hco1.down (show V.drew.heap.size ≤ _ from hg9.sz)
        refine ⟨_, rfl, hK2, ?_⟩
        clear hK hg9 gx
        have hK := hK2
        have hg9 := hg2
        clear hK2 hg2
        simp only [zz1, zz2, zz3, Act.put, mixA, mixL, zz9, zz0, zz4, zz5, zz6]
        refine wpAnyH_go [5] (by kernel_rfl) (by simp) ⟨⟨_, rfl, rfl, ?_⟩, trivial⟩
        refine runs_c1 en_cpy (ev rfl) ((copy_any W wp rp cp wc rc cc _ (HRW.out.kept (HGW.trans hg9)) (HRR.out.kept (HGW.trans hg9)) (HRC.out.kept (HGW.trans hg9)) HSW.out).mono ?_)
        rintro e x41 ⟨r0, r1, r2, rc0, rc1, rc2, rfl, hco2, gx⟩
        have hK2 := hK.grew gx
        have hg2 := hg9.trans gx
        have hco1x := hco1.grew gx
        replace hb1 := hb1.grew gx
        replace hb2 := hb2.grew gx
        have hdd : ∀ a b, (p0 = some a ∨ p1 = some a ∨ p2 = some a) → (r0 = some b ∨ r1 = some b ∨ r2 = some b) → a.block ≠ b.block := fun a b ha hb => by have h1 := (hco1.lt a ha).2; have h2 := (hco2.lt b hb).1; omega
        replace hco1 := hco1x
        clear hco1x
        replace hco2 := hco2.down (show V.drew.heap.size ≤ _ from hg9.sz)
        refine ⟨_, rfl, hK2, ?_⟩
        clear hK hg9 gx
        have hK := hK2
        have hg9 := hg2
        clear hK2 hg2
        simp only [zz1, zz2, zz3, Act.put, mixA, mixL, zz9, zz0, zz4, zz5, zz6]
        refine wpAnyH_go [8] (by kernel_rfl) (by simp) ⟨⟨_, rfl, rfl, ?_⟩, trivial⟩
        refine runs_stw 37 (us := [.slice p0 W.ws.length pc0, .slice p1 W.rs.length pc1, .int .i64 W.fl, .slice p2 W.cs.length pc2]) (ev rfl) (ev rfl) hb1 rfl sizeW (fun v hv => by simp only [List.mem_cons, List.not_mem_nil, or_false] at hv; rcases hv with rfl | rfl | rfl | rfl <;> rfl) fun x42 hbx cx => ?_
        have hK2 := hK.chg cx (fun e => by have h1 := hK.ne hb1 (by decide); exact h1 e)
        have hg2 : Grew V.drew x42 := grew_lift hg9 cx fun k hk => by have e : k = q1 := hk; omega
        replace hco1 := hco1.chg cx hb1
        replace hco2 := hco2.chg cx hb1
        replace hb2 := hb2.chg cx (fun e => hqq e.symm)
        replace hb1 := hbx
        refine ⟨hK2, ?_⟩
        clear hK hg9 cx hbx
        have hK := hK2
        have hg9 := hg2
        clear hK2 hg2
        simp only [zz1, zz2, zz3, Act.put, mixA, mixL, zz9, zz0, zz4, zz5, zz6]
        refine wpAnyH_go [9] (by kernel_rfl) (by simp) ⟨⟨_, rfl, rfl, ?_⟩, trivial⟩
        refine runs_stw 37 (us := [.slice r0 W.ws.length rc0, .slice r1 W.rs.length rc1, .int .i64 W.fl, .slice r2 W.cs.length rc2]) (ev rfl) (ev rfl) hb2 rfl sizeW (fun v hv => by simp only [List.mem_cons, List.not_mem_nil, or_false] at hv; rcases hv with rfl | rfl | rfl | rfl <;> rfl) fun x43 hbx cx => ?_
        have hK2 := hK.chg cx (fun e => by have h1 := hK.ne hb2 (by decide); exact h1 e)
        have hg2 : Grew V.drew x43 := grew_lift hg9 cx fun k hk => by have e : k = q2 := hk; omega
        replace hco1 := hco1.chg cx hb2
        replace hco2 := hco2.chg cx hb2
        replace hb1 := hb1.chg cx (fun e => hqq e)
        replace hb2 := hbx
        refine ⟨hK2, ?_⟩
        clear hK hg9 cx hbx
        have hK := hK2
        have hg9 := hg2
        clear hK2 hg2
        simp only [zz1, zz2, zz3, Act.put, mixA, mixL, zz9, zz0, zz4, zz5, zz6]
        refine wpAnyH_done (by kernel_rfl) ?_ _
        exact ⟨rfl, q1, q2, .agg #[.slice p0 W.ws.length pc0, .slice p1 W.rs.length pc1, .int .i64 W.fl, .slice p2 W.cs.length pc2], .agg #[.slice r0 W.ws.length rc0, .slice r1 W.rs.length rc1, .int .i64 W.fl, .slice r2 W.cs.length rc2], by kernel_rfl, Two.of (hco1.down (Nat.le_of_eq (hB0.symm.trans hBd))) (hco2.down (Nat.le_of_eq (hB0.symm.trans hBd))) hdd hb1 hb2 hqq (hB0 ▸ hm1) (hB0 ▸ hm2), hB0 ▸ hm1, hB0 ▸ hm2, hgd.trans hg9⟩
    · refine runs_alw 37 [.slice none 0 0, .slice none 0 0, .int .i64 0, .slice none 0 0] zeroW fun x44 hb2 gx => ?_
      have hK2 := hK.grew gx
      have hg2 := hg9.trans gx
      have hm2 : B0 ≤ V.drew.heap.size := Nat.le_trans (Nat.le_of_eq hBd) hg9.sz
      generalize V.drew.heap.size = q2 at hb2 hm2 ⊢
      refine ⟨hK2, ?_⟩
      clear hK hg9 gx
      have hK := hK2
      have hg9 := hg2
      clear hK2 hg2
      simp only [zz1, zz2, zz3, Act.put, mixA, mixL, zz9, zz0, zz4, zz5, zz6]
      refine wpAnyH_go [2, 6] (by kernel_rfl) (by simp) ⟨⟨_, rfl, rfl, ?_⟩, ⟨_, rfl, rfl, ?_⟩, trivial⟩
      · refine runs_c1 en_cpy (ev rfl) ((copy_any W wp rp cp wc rc cc _ (HRW.out.kept (HGW.trans hg9)) (HRR.out.kept (HGW.trans hg9)) (HRC.out.kept (HGW.trans hg9)) HSW.out).mono ?_)
        rintro e x45 ⟨p0, p1, p2, pc0, pc1, pc2, rfl, hco1, gx⟩
        have hK2 := hK.grew gx
        have hg2 := hg9.trans gx
        replace hb2 := hb2.grew gx
        replace hco1 := hco1.down (show V.drew.heap.size ≤ _ from hg9.sz)
        refine ⟨_, rfl, hK2, ?_⟩
        clear hK hg9 gx
        have hK := hK2
        have hg9 := hg2
        clear hK2 hg2
        simp only [zz1, zz2, zz3, Act.put, mixA, mixL, zz9, zz0, zz4, zz5, zz6]
        refine wpAnyH_go [5, 6] (by kernel_rfl) (by simp) ⟨⟨_, rfl, rfl, ?_⟩, ⟨_, rfl, rfl, ?_⟩, trivial⟩
        · refine runs_c1 en_cpy (ev rfl) ((copy_any W wp rp cp wc rc cc _ (HRW.out.kept (HGW.trans hg9)) (HRR.out.kept (HGW.trans hg9)) (HRC.out.kept (HGW.trans hg9)) HSW.out).mono ?_)
          rintro e x46 ⟨r0, r1, r2, rc0, rc1, rc2, rfl, hco2, gx⟩
          have hK2 := hK.grew gx
          have hg2 := hg9.trans gx
          have hco1x := hco1.grew gx
          replace hb2 := hb2.grew gx
          have hdd : ∀ a b, (p0 = some a ∨ p1 = some a ∨ p2 = some a) → (r0 = some b ∨ r1 = some b ∨ r2 = some b) → a.block ≠ b.block := fun a b ha hb => by have h1 := (hco1.lt a ha).2; have h2 := (hco2.lt b hb).1; omega
          replace hco1 := hco1x
          clear hco1x
          replace hco2 := hco2.down (show V.drew.heap.size ≤ _ from hg9.sz)
          refine ⟨_, rfl, hK2, ?_⟩
          clear hK hg9 gx
          have hK := hK2
          have hg9 := hg2
          clear hK2 hg2
          simp only [zz1, zz2, zz3, Act.put, mixA, mixL, zz9, zz0, zz4, zz5, zz6]
          refine wpAnyH_go [6] (by kernel_rfl) (by simp) ⟨⟨_, rfl, rfl, ?_⟩, trivial⟩
          refine runs_alw 37 [.slice none 0 0, .slice none 0 0, .int .i64 0, .slice none 0 0] zeroW fun x47 hb1 gx => ?_
          have hK2 := hK.grew gx
          have hg2 := hg9.trans gx
          have hm1 : B0 ≤ x46.heap.size := Nat.le_trans (Nat.le_of_eq hBd) hg9.sz
          replace hco1 := hco1.grew gx
          replace hco2 := hco2.grew gx
          have hqq : q2 ≠ x46.heap.size := by have := hb2.lt; omega
          replace hb2 := hb2.grew gx
          have hqq := hqq.symm
          generalize x46.heap.size = q1 at hb1 hm1 hqq ⊢
          refine ⟨hK2, ?_⟩
          clear hK hg9 gx
          have hK := hK2
          have hg9 := hg2
          clear hK2 hg2
          simp only [zz1, zz2, zz3, Act.put, mixA, mixL, zz9, zz0, zz4, zz5, zz6]
          refine wpAnyH_go [8] (by kernel_rfl) (by simp) ⟨⟨_, rfl, rfl, ?_⟩, trivial⟩
          refine runs_stw 37 (us := [.slice p0 W.ws.length pc0, .slice p1 W.rs.length pc1, .int .i64 W.fl, .slice p2 W.cs.length pc2]) (ev rfl) (ev rfl) hb1 rfl sizeW (fun v hv => by simp only [List.mem_cons, List.not_mem_nil, or_false] at hv; rcases hv with rfl | rfl | rfl | rfl <;> rfl) fun x48 hbx cx => ?_
          have hK2 := hK.chg cx (fun e => by have h1 := hK.ne hb1 (by decide); exact h1 e)
          have hg2 : Grew V.drew x48 := grew_lift hg9 cx fun k hk => by have e : k = q1 := hk; omega
          replace hco1 := hco1.chg cx hb1
          replace hco2 := hco2.chg cx hb1
          replace hb2 := hb2.chg cx (fun e => hqq e.symm)
          replace hb1 := hbx
          refine ⟨hK2, ?_⟩
          clear hK hg9 cx hbx
          have hK := hK2
          have hg9 := hg2
          clear hK2 hg2
          simp only [zz1, zz2, zz3, Act.put, mixA, mixL, zz9, zz0, zz4, zz5, zz6]
          refine wpAnyH_go [9] (by kernel_rfl) (by simp) ⟨⟨_, rfl, rfl, ?_⟩, trivial⟩
          refine runs_stw 37 (us := [.slice r0 W.ws.length rc0, .slice r1 W.rs.length rc1, .int .i64 W.fl, .slice r2 W.cs.length rc2]) (ev rfl) (ev rfl) hb2 rfl sizeW (fun v hv => by simp only [List.mem_cons, List.not_mem_nil, or_false] at hv; rcases hv with rfl | rfl | rfl | rfl <;> rfl) fun x49 hbx cx => ?_
          have hK2 := hK.chg cx (fun e => by have h1 := hK.ne hb2 (by decide); exact h1 e)
          have hg2 : Grew V.drew x49 := grew_lift hg9 cx fun k hk => by have e : k = q2 := hk; omega
          replace hco1 := hco1.chg cx hb2
          replace hco2 := hco2.chg cx hb2
          replace hb1 := hb1.chg cx (fun e => hqq e)
          replace hb2 := hbx
          refine ⟨hK2, ?_⟩
          clear hK hg9 cx hbx
          have hK := hK2
          have hg9 := hg2
          clear hK2 hg2
          simp only [zz1, zz2, zz3, Act.put, mixA, mixL, zz9, zz0, zz4, zz5, zz6]
          refine wpAnyH_done (by kernel_rfl) ?_ _
          exact ⟨rfl, q1, q2, .agg #[.slice p0 W.ws.length pc0, .slice p1 W.rs.length pc1, .int .i64 W.fl, .slice p2 W.cs.length pc2], .agg #[.slice r0 W.ws.length rc0, .slice r1 W.rs.length rc1, .int .i64 W.fl, .slice r2 W.cs.length rc2], by kernel_rfl, Two.of (hco1.down (Nat.le_of_eq (hB0.symm.trans hBd))) (hco2.down (Nat.le_of_eq (hB0.symm.trans hBd))) hdd hb1 hb2 hqq (hB0 ▸ hm1) (hB0 ▸ hm2), hB0 ▸ hm1, hB0 ▸ hm2, hgd.trans hg9⟩
        · refine runs_alw 37 [.slice none 0 0, .slice none 0 0, .int .i64 0, .slice none 0 0] zeroW fun x50 hb1 gx => ?_
          have hK2 := hK.grew gx
          have hg2 := hg9.trans gx
          have hm1 : B0 ≤ x45.heap.size := Nat.le_trans (Nat.le_of_eq hBd) hg9.sz
          replace hco1 := hco1.grew gx
          have hqq : q2 ≠ x45.heap.size := by have := hb2.lt; omega
          replace hb2 := hb2.grew gx
          have hqq := hqq.symm
          generalize x45.heap.size = q1 at hb1 hm1 hqq ⊢
          refine ⟨hK2, ?_⟩
          clear hK hg9 gx
          have hK := hK2
          have hg9 := hg2
          clear hK2 hg2
          simp only [zz1, zz2, zz3, Act.put, mixA, mixL, zz9, zz0, zz4, zz5, zz6]
          refine wpAnyH_go [5] (by kernel_rfl) (by simp) ⟨⟨_, rfl, rfl, ?_⟩, trivial⟩
          refine runs_c1 en_cpy (ev rfl) ((copy_any W wp rp cp wc rc cc _ (HRW.out.kept (HGW.trans hg9)) (HRR.out.kept (HGW.trans hg9)) (HRC.out.kept (HGW.trans hg9)) HSW.out).mono ?_)
          rintro e x51 ⟨r0, r1, r2, rc0, rc1, rc2, rfl, hco2, gx⟩
          have hK2 := hK.grew gx
          have hg2 := hg9.trans gx
          have hco1x := hco1.grew gx
          replace hb1 := hb1.grew gx
          replace hb2 := hb2.grew gx
          have hdd : ∀ a b, (p0 = some a ∨ p1 = some a ∨ p2 = some a) → (r0 = some b ∨ r1 = some b ∨ r2 = some b) → a.block ≠ b.block := fun a b ha hb => by have h1 := (hco1.lt a ha).2; have h2 := (hco2.lt b hb).1; omega
          replace hco1 := hco1x
          clear hco1x
          replace hco2 := hco2.down (show V.drew.heap.size ≤ _ from hg9.sz)
          refine ⟨_, rfl, hK2, ?_⟩
          clear hK hg9 gx
          have hK := hK2
          have hg9 := hg2
          clear hK2 hg2
          simp only [zz1, zz2, zz3, Act.put, mixA, mixL, zz9, zz0, zz4, zz5, zz6]
          refine wpAnyH_go [8] (by kernel_rfl) (by simp) ⟨⟨_, rfl, rfl, ?_⟩, trivial⟩
          refine runs_stw 37 (us := [.slice p0 W.ws.length pc0, .slice p1 W.rs.length pc1, .int .i64 W.fl, .slice p2 W.cs.length pc2]) (ev rfl) (ev rfl) hb1 rfl sizeW (fun v hv => by simp only [List.mem_cons, List.not_mem_nil, or_false] at hv; rcases hv with rfl | rfl | rfl | rfl <;> rfl) fun x52 hbx cx => ?_
          have hK2 := hK.chg cx (fun e => by have h1 := hK.ne hb1 (by decide); exact h1 e)
          have hg2 : Grew V.drew x52 := grew_lift hg9 cx fun k hk => by have e : k = q1 := hk; omega
          replace hco1 := hco1.chg cx hb1
          replace hco2 := hco2.chg cx hb1
          replace hb2 := hb2.chg cx (fun e => hqq e.symm)
          replace hb1 := hbx
          refine ⟨hK2, ?_⟩
          clear hK hg9 cx hbx
          have hK := hK2
          have hg9 := hg2
          clear hK2 hg2
          simp only [zz1, zz2, zz3, Act.put, mixA, mixL, zz9, zz0, zz4, zz5, zz6]
          refine wpAnyH_go [9] (by kernel_rfl) (by simp) ⟨⟨_, rfl, rfl, ?_⟩, trivial⟩
          refine runs_stw 37 (us := [.slice r0 W.ws.length rc0, .slice r1 W.rs.length rc1, .int .i64 W.fl, .slice r2 W.cs.length rc2]) (ev rfl) (ev rfl) hb2 rfl sizeW (fun v hv => by simp only [List.mem_cons, List.not_mem_nil, or_false] at hv; rcases hv with rfl | rfl | rfl | rfl <;> rfl) fun x53 hbx cx => ?_
          have hK2 := hK.chg cx (fun e => by have h1 := hK.ne hb2 (by decide); exact h1 e)
          have hg2 : Grew V.drew x53 := grew_lift hg9 cx fun k hk => by have e : k = q2 := hk; omega
          replace hco1 := hco1.chg cx hb2
          replace hco2 := hco2.chg cx hb2
          replace hb1 := hb1.chg cx (fun e => hqq e)
          replace hb2 := hbx
          refine ⟨hK2, ?_⟩
          clear hK hg9 cx hbx
          have hK := hK2
          have hg9 := hg2
          clear hK2 hg2
          simp only [zz1, zz2, zz3, Act.put, mixA, mixL, zz9, zz0, zz4, zz5, zz6]
          refine wpAnyH_done (by kernel_rfl) ?_ _
          exact ⟨rfl, q1, q2, .agg #[.slice p0 W.ws.length pc0, .slice p1 W.rs.length pc1, .int .i64 W.fl, .slice p2 W.cs.length pc2], .agg #[.slice r0 W.ws.length rc0, .slice r1 W.rs.length rc1, .int .i64 W.fl, .slice r2 W.cs.length rc2], by kernel_rfl, Two.of (hco1.down (Nat.le_of_eq (hB0.symm.trans hBd))) (hco2.down (Nat.le_of_eq (hB0.symm.trans hBd))) hdd hb1 hb2 hqq (hB0 ▸ hm1) (hB0 ▸ hm2), hB0 ▸ hm1, hB0 ▸ hm2, hgd.trans hg9⟩
      · refine runs_alw 37 [.slice none 0 0, .slice none 0 0, .int .i64 0, .slice none 0 0] zeroW fun x54 hb1 gx => ?_
        have hK2 := hK.grew gx
        have hg2 := hg9.trans gx
        have hm1 : B0 ≤ x44.heap.size := Nat.le_trans (Nat.le_of_eq hBd) hg9.sz
        have hqq : q2 ≠ x44.heap.size := by have := hb2.lt; omega
        replace hb2 := hb2.grew gx
        have hqq := hqq.symm
        generalize x44.heap.size = q1 at hb1 hm1 hqq ⊢
        refine ⟨hK2, ?_⟩
        clear hK hg9 gx
        have hK := hK2
        have hg9 := hg2
        clear hK2 hg2
        simp only [zz1, zz2, zz3, Act.put, mixA, mixL, zz9, zz0, zz4, zz5, zz6]
        refine wpAnyH_go [2] (by kernel_rfl) (by simp) ⟨⟨_, rfl, rfl, ?_⟩, trivial⟩
        refine runs_c1 en_cpy (ev rfl) ((copy_any W wp rp cp wc rc cc _ (HRW.out.kept (HGW.trans hg9)) (HRR.out.kept (HGW.trans hg9)) (HRC.out.kept (HGW.trans hg9)) HSW.out).mono ?_)
        rintro e x55 ⟨p0, p1, p2, pc0, pc1, pc2, rfl, hco1, gx⟩
        have hK2 := hK.grew gx
        have hg2 := hg9.trans gx
        replace hb1 := hb1.grew gx
        replace hb2 := hb2.grew gx
        replace hco1 := hco1.down (show V.drew.heap.size ≤ _ from hg9.sz)
        refine ⟨_, rfl, hK2, ?_⟩
        clear hK hg9 gx
        have hK := hK2
        have hg9 := hg2
        clear hK2 hg2
        simp only [zz1, zz2, zz3, Act.put, mixA, mixL, zz9, zz0, zz4, zz5, zz6]
        refine wpAnyH_go [5] (by kernel_rfl) (by simp) ⟨⟨_, rfl, rfl, ?_⟩, trivial⟩
        refine runs_c1 en_cpy (ev rfl) ((copy_any W wp rp cp wc rc cc _ (HRW.out.kept (HGW.trans hg9)) (HRR.out.kept (HGW.trans hg9)) (HRC.out.kept (HGW.trans hg9)) HSW.out).mono ?_)
        rintro e x56 ⟨r0, r1, r2, rc0, rc1, rc2, rfl, hco2, gx⟩
        have hK2 := hK.grew gx
        have hg2 := hg9.trans gx
        have hco1x := hco1.grew gx
        replace hb1 := hb1.grew gx
        replace hb2 := hb2.grew gx
        have hdd : ∀ a b, (p0 = some a ∨ p1 = some a ∨ p2 = some a) → (r0 = some b ∨ r1 = some b ∨ r2 = some b) → a.block ≠ b.block := fun a b ha hb => by have h1 := (hco1.lt a ha).2; have h2 := (hco2.lt b hb).1; omega
        replace hco1 := hco1x
        clear hco1x
        replace hco2 := hco2.down (show V.drew.heap.size ≤ _ from hg9.sz)
        refine ⟨_, rfl, hK2, ?_⟩
        clear hK hg9 gx
        have hK := hK2
        have hg9 := hg2
        clear hK2 hg2
        simp only [zz1, zz2, zz3, Act.put, mixA, mixL, zz9, zz0, zz4, zz5, zz6]
        refine wpAnyH_go [8] (by kernel_rfl) (by simp) ⟨⟨_, rfl, rfl, ?_⟩, trivial⟩
        refine runs_stw 37 (us := [.slice p0 W.ws.length pc0, .slice p1 W.rs.length pc1, .int .i64 W.fl, .slice p2 W.cs.length pc2]) (ev rfl) (ev rfl) hb1 rfl sizeW (fun v hv => by simp only [List.mem_cons, List.not_mem_nil, or_false] at hv; rcases hv with rfl | rfl | rfl | rfl <;> rfl) fun x57 hbx cx => ?_
        have hK2 := hK.chg cx (fun e => by have h1 := hK.ne hb1 (by decide); exact h1 e)
        have hg2 : Grew V.drew x57 := grew_lift hg9 cx fun k hk => by have e : k = q1 := hk; omega
        replace hco1 := hco1.chg cx hb1
        replace hco2 := hco2.chg cx hb1
        replace hb2 := hb2.chg cx (fun e => hqq e.symm)
        replace hb1 := hbx
        refine ⟨hK2, ?_⟩
        clear hK hg9 cx hbx
        have hK := hK2
        have hg9 := hg2
        clear hK2 hg2
        simp only [zz1, zz2, zz3, Act.put, mixA, mixL, zz9, zz0, zz4, zz5, zz6]
        refine wpAnyH_go [9] (by kernel_rfl) (by simp) ⟨⟨_, rfl, rfl, ?_⟩, trivial⟩
        refine runs_stw 37 (us := [.slice r0 W.ws.length rc0, .slice r1 W.rs.length rc1, .int .i64 W.fl, .slice r2 W.cs.length rc2]) (ev rfl) (ev rfl) hb2 rfl sizeW (fun v hv => by simp only [List.mem_cons, List.not_mem_nil, or_false] at hv; rcases hv with rfl | rfl | rfl | rfl <;> rfl) fun x58 hbx cx => ?_
        have hK2 := hK.chg cx (fun e => by have h1 := hK.ne hb2 (by decide); exact h1 e)
        have hg2 : Grew V.drew x58 := grew_lift hg9 cx fun k hk => by have e : k = q2 := hk; omega
        replace hco1 := hco1.chg cx hb2
        replace hco2 := hco2.chg cx hb2
        replace hb1 := hb1.chg cx (fun e => hqq e)
        replace hb2 := hbx
        refine ⟨hK2, ?_⟩
        clear hK hg9 cx hbx
        have hK := hK2
        have hg9 := hg2
        clear hK2 hg2
        simp only [zz1, zz2, zz3, Act.put, mixA, mixL, zz9, zz0, zz4, zz5, zz6]
        refine wpAnyH_done (by kernel_rfl) ?_ _
        exact ⟨rfl, q1, q2, .agg #[.slice p0 W.ws.length pc0, .slice p1 W.rs.length pc1, .int .i64 W.fl, .slice p2 W.cs.length pc2], .agg #[.slice r0 W.ws.length rc0, .slice r1 W.rs.length rc1, .int .i64 W.fl, .slice r2 W.cs.length rc2], by kernel_rfl, Two.of (hco1.down (Nat.le_of_eq (hB0.symm.trans hBd))) (hco2.down (Nat.le_of_eq (hB0.symm.trans hBd))) hdd hb1 hb2 hqq (hB0 ▸ hm1) (hB0 ▸ hm2), hB0 ▸ hm1, hB0 ▸ hm2, hgd.trans hg9⟩
  rintro a' V2 ⟨q1, q2, v1, v2, rfl, hTwo, hq1, hq2, g2⟩
  simp only [zz1, zz2, zz3, Act.put, mixA, mixL, zz9, zz0, zz4, zz5, zz6]
  have HTW := Lib.hid hTwo
  have HG2 := Lib.hid g2
  have HBK0 := HBK
  replace HBK := Lib.hid (HBK.out.grew g2)
  clear hTwo hq1 hq2 g2
  go_upto_region 6 with fail
  refine wp_region_list ?_
  refine wpList_runs rfl (some 28) rfl (rn_fld_39_0 (ev rfl) ?_)
  simp only [zz1, zz2, zz3, Act.put, mixA, mixL, zz9, zz0, zz4, zz5, zz6]
  refine wpList_runs rfl (some 29) rfl (runs_ldm 33 (ev rfl) (case_st HS.out HBK.out) Tryd.underlying33 rfl (by rw [sizeS, stv_len HS.out]) ?_)
  simp only [zz1, zz2, zz3, Act.put, mixA, mixL, zz9, zz0, zz4, zz5, zz6]
  refine wpList_runs rfl (some 30) rfl (runs_c1 en_ownz (ev rfl) ((own_any s HS.out _).mono ?_))
  rintro e wo ⟨rfl, go⟩
  refine ⟨_, rfl, ?_⟩
  simp only [zz1, zz2, zz3, Act.put, mixA, mixL, zz9, zz0, zz4, zz5, zz6]
  refine alloc_cpu rfl rfl fun wp5 hC5 g5 => ?_
  simp only [zz1, zz2, zz3, Act.put, mixA, mixL, zz9, zz0, zz4, zz5, zz6]
  refine store_st sizeC rfl (.tmp 9) (.tmp 30) rfl wo.heap.size rfl s zst HS.out zst_ok rfl hC5 fun V3 hC6 c6 => ?_
  simp only [zz1, zz2, zz3, Act.put, mixA, mixL, zz9, zz0, zz4, zz5, zz6]
  have g6 : Grew V2 V3 := go.trans (grew_lift g5 c6 fun k hk => by have e : k = wo.heap.size := hk; omega)
  have hCL := go.sz
  have HC := Lib.hid hC6
  generalize wo.heap.size = C at HC hCL hC5 hC6 c6 ⊢
  clear go hC5 g5 hC6 c6
  have HGV := Lib.hid (HG2.out.trans g6)
  have HNC : Hid (N ≤ C) := Lib.hid (by have := HNV.out; have := HG2.out.sz; omega)
  have HPR : Hid (Pair N q1 q2 W W V3) := Lib.hid (by rw [HNV.out]; exact HTW.out.pair.grew g6)
  clear g6 hCL HTW
  obtain ⟨rr, hrr⟩ : ∃ r, r = runN I L s W := ⟨_, rfl⟩
  have HR := Lib.hid hrr
  clear hrr
  go_upto_region 8 with (go_at_call 18; obtain ⟨S9, hb9, hn9⟩ := HPR.out.left; (with_reducible refine (run_at _ L (by omega) I s W N C X q1 S9 _ HC.out hb9 (HIM.out.grew HGV.out) HIO.out (HEN.out.grew HGV.out) HS.out (by have := HSM.out.cs; omega) (by have := HNV.out; have := HGV.out.sz; omega) HNC.out HWO.out).mono ?_); rintro e w8 ⟨rfl, hP, hok, hwk, hlen⟩; rw [← HR.out] at hP hok hwk hlen ⊢; obtain ⟨hC8, hbus8⟩ := hP; obtain ⟨hp8, hbl, hoth⟩ := hn9 (fun k => k = C) _ _ (fun k e => (by have e2 : k = C := e; subst e2; exact ⟨HNC.out, _, _, (by decide), HC.out⟩)) hbus8 (by have := HNV.out; have := HGV.out.sz; omega); clear HC HPR; have HC := Lib.hid hC8; have HPR := Lib.hid hp8; have HGV8 : Hid (Grew V w8) := Lib.hid (Below.trans HGV.out (HNV.out ▸ hbl)); clear HGV; have HGV := Lib.hid HGV8.out; clear HGV8 hC8 hbus8 hp8 hbl hoth hb9 hn9; have HOKZ := Lib.hid hok; clear hok hwk hlen)
  have HBK8 := Lib.hid (HBK0.out.grew HGV.out)
  have HBX8 := Lib.hid (HBX.out.grew HGV.out)
  have hI8 := HIRV.out.grew HGV.out
  obtain ⟨S10, hb10, hn10⟩ := HPR.out.symm.left
  refine wp_region_list ?_
  refine wpList_runs rfl (some 39) rfl (rn_fld_39_0 (ev rfl) ?_)
  simp only [zz1, zz2, zz3, Act.put, mixA, mixL, zz9, zz0, zz4, zz5, zz6]
  refine wpList_runs rfl (some 40) rfl (runs_ldm 33 (ev rfl) (case_st HS.out HBK8.out) Tryd.underlying33 rfl (by rw [sizeS, stv_len HS.out]) ?_)
  simp only [zz1, zz2, zz3, Act.put, mixA, mixL, zz9, zz0, zz4, zz5, zz6]
  refine wpList_runs rfl (some 41) rfl (runs_ldm 28 (ev rfl) (HBX8.out.range) Tryd.underlying28 rfl (by rw [sizeI]; rfl) ?_)
  simp only [zz1, zz2, zz3, Act.put, mixA, mixL, zz9, zz0, zz4, zz5, zz6]
  refine wpList_runs rfl (some 42) rfl (runs_mv (ev rfl) ?_)
  simp only [zz1, zz2, zz3, Act.put, mixA, mixL, zz9, zz0, zz4, zz5, zz6]
  refine wpList_runs rfl (some 43) rfl (rn_cv_5_3 (ev rfl) (by omega) ?_)
  simp only [zz1, zz2, zz3, Act.put, mixA, mixL, zz9, zz0, zz4, zz5, zz6]
  refine wpList_runs rfl (some 44) rfl (runs_c4 en_rrn (ev rfl) (ev rfl) (ev rfl) (ev rfl) ((rrun_any L I r gp ap kp hp gc ac kc hc s HS.out W HWO.out N q2 S10 _ hb10 hI8 HIO.out (by have := HSM.out.cs; omega) (by have := HNV.out; have := HGV.out.sz; omega)).mono ?_))
  rintro e w9 ⟨rfl, hbus9, hok9, hwk9⟩
  refine ⟨_, rfl, ?_⟩
  simp only [zz1, zz2, zz3, Act.put, mixA, mixL, zz9, zz0, zz4, zz5, zz6]
  rw [← HR.out] at hbus9 hok9 hwk9 ⊢
  obtain ⟨hp9, hbl9, hoth9⟩ := hn10 (fun _ => False) _ _ (fun k e => e.elim) hbus9 (by have := HNV.out; have := HGV.out.sz; omega)
  have HC9 := Lib.hid (hoth9 C _ CPT (by decide) HC.out id)
  have HPR9 := Lib.hid hp9.symm
  have HGV9 : Hid (Grew V w9) := Lib.hid (Below.trans HGV.out (HNV.out ▸ hbl9))
  clear hok9 hwk9 HC HPR HGV hbus9 hp9 hbl9 hoth9 hb10 hn10 hI8 HBK8 HBX8
  refine wpList_runs rfl (some 38) rfl (runs_mv (ev rfl) ?_)
  simp only [zz1, zz2, zz3, Act.put, mixA, mixL, zz9, zz0, zz4, zz5, zz6]
  refine wpList_runs rfl (some 45) rfl (rn_ext (ev rfl) rfl ?_)
  simp only [zz1, zz2, zz3, Act.put, mixA, mixL, zz9, zz0, zz4, zz5, zz6]
  refine wpList_runs rfl (some 46) rfl (rn_ext (ev rfl) rfl ?_)
  simp only [zz1, zz2, zz3, Act.put, mixA, mixL, zz9, zz0, zz4, zz5, zz6]
  refine wpList_runs rfl (some 47) rfl (rn_ext (ev rfl) rfl ?_)
  simp only [zz1, zz2, zz3, Act.put, mixA, mixL, zz9, zz0, zz4, zz5, zz6]
  refine alloc_st rfl rfl fun w10 hO10 g10 => ?_
  simp only [zz1, zz2, zz3, Act.put, mixA, mixL, zz9, zz0, zz4, zz5, zz6]
  refine store_st sizeS rfl (.tmp 12) (.tmp 45) rfl w9.heap.size rfl rr.1 zst HOKZ.out zst_ok rfl hO10 fun w11 hO11 c11 => ?_
  simp only [zz1, zz2, zz3, Act.put, mixA, mixL, zz9, zz0, zz4, zz5, zz6]
  have g11 : Grew w9 w11 := grew_lift g10 c11 fun k hk => by have e : k = w9.heap.size := hk; omega
  have HO := Lib.hid hO11
  have HC := Lib.hid (HC9.out.grew g11)
  have HPR := Lib.hid (HPR9.out.grew g11)
  have HGV := Lib.hid (HGV9.out.trans g11)
  generalize w9.heap.size = O at HO hO10 hO11 c11 ⊢
  clear g10 c11 hO10 hO11 g11 HC9 HPR9 HGV9
  refine wpList_runs rfl (some 13) rfl (runs_mva (ev rfl) ?_)
  simp only [zz1, zz2, zz3, Act.put, mixA, mixL, zz9, zz0, zz4, zz5, zz6]
  refine wpList_runs rfl (some 14) rfl (runs_mva (ev rfl) ?_)
  simp only [zz1, zz2, zz3, Act.put, mixA, mixL, zz9, zz0, zz4, zz5, zz6]
  go_upto_region 9 with fail
  obtain ⟨S1, S2, ⟨a1, a2, a3, a4, a5, a6, ha9⟩, ⟨b1, b2, b3, b4, b5, b6, hb9⟩, _⟩ := HPR.out
  clear HPR
  refine wp_region_list ?_
  refine wpList_runs rfl (some 48) rfl (runs_mv (ev rfl) ?_)
  simp only [zz1, zz2, zz3, Act.put, mixA, mixL, zz9, zz0, zz4, zz5, zz6]
  refine wpList_runs rfl (some 49) rfl (runs_mv (ev rfl) ?_)
  simp only [zz1, zz2, zz3, Act.put, mixA, mixL, zz9, zz0, zz4, zz5, zz6]
  refine wpList_runs rfl (some 50) rfl (runs_to (v := .bool ((rr.2.1) == (rr.2.1))) (u := .bool (true)) (rn_eql_3 (ev rfl) (ev rfl) ⟨rfl, rfl⟩) (congrArg Value.bool (by simp)) ?_)
  simp only [zz1, zz2, zz3, Act.put, mixA, mixL, zz9, zz0, zz4, zz5, zz6]
  refine wpList_runs rfl (some 51) rfl (runs_mv (ev rfl) ?_)
  simp only [zz1, zz2, zz3, Act.put, mixA, mixL, zz9, zz0, zz4, zz5, zz6]
  refine wpList_taken rfl (some 52) rfl (runs_mv (ev rfl) ?_)
  simp only [zz1, zz2, zz3, Act.put, mixA, mixL, zz9, zz0, zz4, zz5, zz6]
  refine wpList_taken rfl (some 53) rfl (runs_mv (ev rfl) ?_)
  simp only [zz1, zz2, zz3, Act.put, mixA, mixL, zz9, zz0, zz4, zz5, zz6]
  refine wpList_taken rfl (some 54) rfl (runs_to (v := .bool ((((rr.2.2.1 : Nat) : Int)) == (((rr.2.2.1 : Nat) : Int)))) (u := .bool (true)) (rn_eql_3 (ev rfl) (ev rfl) ⟨rfl, rfl⟩) (congrArg Value.bool (by simp)) ?_)
  simp only [zz1, zz2, zz3, Act.put, mixA, mixL, zz9, zz0, zz4, zz5, zz6]
  refine wpList_runs rfl (some 55) rfl (runs_an (ev rfl) (fun hb => ev (rfl)) ?_)
  simp only [zz1, zz2, zz3, Act.put, mixA, mixL, zz9, zz0, zz4, zz5, zz6]
  refine wpList_runs rfl (some 56) rfl (runs_mv (ev rfl) ?_)
  simp only [zz1, zz2, zz3, Act.put, mixA, mixL, zz9, zz0, zz4, zz5, zz6]
  refine wpList_taken rfl (some 57) rfl (runs_ldm 43 (ev rfl) HC.out.range Tryd.underlying43 rfl (by rw [sizeC, stv_len HOKZ.out]) ?_)
  simp only [zz1, zz2, zz3, Act.put, mixA, mixL, zz9, zz0, zz4, zz5, zz6]
  refine wpList_taken rfl (some 58) rfl (runs_ldm 33 (ev rfl) HO.out.range Tryd.underlying33 rfl (by rw [sizeS, stv_len HOKZ.out]) ?_)
  simp only [zz1, zz2, zz3, Act.put, mixA, mixL, zz9, zz0, zz4, zz5, zz6]
  refine wpList_taken rfl (some 59) rfl (runs_c2 en_samez (ev rfl) (ev rfl) ((same_self rr.1 HOKZ.out _).mono ?_))
  rintro e w9 ⟨rfl, g9⟩
  refine ⟨_, rfl, ?_⟩
  replace ha9 := ha9.grew g9
  replace hb9 := hb9.grew g9
  have HGV2 := Lib.hid (HGV.out.trans g9)
  clear g9 HC HO
  simp only [zz1, zz2, zz3, Act.put, mixA, mixL, zz9, zz0, zz4, zz5, zz6]
  refine wpList_runs rfl (some 60) rfl (runs_an (ev rfl) (fun hb => ev (rfl)) ?_)
  simp only [zz1, zz2, zz3, Act.put, mixA, mixL, zz9, zz0, zz4, zz5, zz6]
  refine wpList_runs rfl (some 61) rfl (runs_mv (ev rfl) ?_)
  simp only [zz1, zz2, zz3, Act.put, mixA, mixL, zz9, zz0, zz4, zz5, zz6]
  refine wpList_taken rfl (some 62) rfl (runs_ldm 37 (ev rfl) ha9.rcd.range Tryd.underlying37 rfl (by rw [sizeW]; rfl) ?_)
  simp only [zz1, zz2, zz3, Act.put, mixA, mixL, zz9, zz0, zz4, zz5, zz6]
  refine wpList_taken rfl (some 63) rfl (runs_ldm 37 (ev rfl) hb9.rcd.range Tryd.underlying37 rfl (by rw [sizeW]; rfl) ?_)
  simp only [zz1, zz2, zz3, Act.put, mixA, mixL, zz9, zz0, zz4, zz5, zz6]
  refine wpList_taken rfl (some 64) rfl (runs_c2 en_swz (ev rfl) (ev rfl) ((sameworld_self rr.2.2.2 a1 a2 a3 a4 a5 a6 b1 b2 b3 b4 b5 b6 _ (OwR.rd encH ha9.ow).2.rd ha9.rd (OwR.rd encL ha9.oc).2.rd (OwR.rd encH hb9.ow).2.rd hb9.rd (OwR.rd encL hb9.oc).2.rd).mono ?_))
  rintro e w9 ⟨rfl, gz⟩
  refine ⟨_, rfl, ?_⟩
  have HGZ := Lib.hid (HG.out.trans (HGV2.out.trans gz))
  clear gz
  simp only [zz1, zz2, zz3, Act.put, mixA, mixL, zz9, zz0, zz4, zz5, zz6]
  refine wpList_runs rfl (some 65) rfl (runs_an (ev rfl) (fun hb => ev (rfl)) ?_)
  simp only [zz1, zz2, zz3, Act.put, mixA, mixL, zz9, zz0, zz4, zz5, zz6]
  refine wpList_runs rfl (some 6) rfl (runs_mva (ev rfl) ?_)
  simp only [zz1, zz2, zz3, Act.put, mixA, mixL, zz9, zz0, zz4, zz5, zz6]
  go_wp2
  go_ret
  exact ⟨rfl, HGZ.out⟩
end Go.Proofs.YtbhglpiiabpdjaaDoor
