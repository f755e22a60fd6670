/-
  THE STATEMENT SaveAfterRestore OF LAYER 12 (cpu), WALKED.
-/
import Derived.Test.YtbhglpiiabpdjaaDoorCpuLaw1
namespace Go.Proofs.YtbhglpiiabpdjaaDoor
open Go Go.RowKit Go.IntWalk Go.WideShapes
set_option linter.unusedSimpArgs false
set_option linter.unusedVariables false
set_option maxRecDepth 8000
/-- 'b[:h]' of elements of one cell. -/
theorem wpList_cut_hi {P : Program} {w : World} {ops : Array Oper} {rest : List Oper} {o : Oper} {a : Act} {Q : Exit → Act → World → Prop} (hg : o.guard = none) (x : Operand) (t : TypeId) (y : Operand) (hop : o.op = Op.slice t x none (some y) none) {e : TypeId}
    (ht : P.underlying t = some (.slice e)) (hs : ∀ w : World, (sizeOf e).run P w = .ok 1 w)
    (p : Option Addr) (n c : Nat) (hx : a.eval x = .slice p n c) (z : Int) (H : Nat) (hy : a.eval y = .int .i64 z) (hz : z = (H : Int)) (hH : H ≤ n) (hcap : n ≤ c) (hc : c ≤ 9223372036854775807)
    (h : wpList P ops Q rest (a.put o.dst (.slice p H c)) w) : wpList P ops Q (o :: rest) a w := by
  subst hz
  have hE : P.elem t = e := by simp [Program.elem, ht]
  have ht' : P.underlying t = some (.slice (P.elem t)) := by rw [hE]; exact ht
  have e0 : cutAt p c 0 = p := by
    unfold cutAt
    split
    · rfl
    · cases p
      · rfl
      · rename_i ad
        obtain ⟨b, o, s⟩ := ad
        simp [Addr.add]
  have hrun : (Instr.sliceAt t (.slice p n c) none (some (.int .i64 H)) none).run P w = .ok (.slice p H c) w := by
    rw [run_sliceAt_slice w t _ _ _ _ ht', run_slice_h w t p n c ht' .i64 H (by omega) (by omega), hE, hs]
    simp only [Result.andThen, Int.toNat_natCast, sliced_eq, e0, Nat.sub_zero]
  refine wpList_plain hg fun K hK => ?_
  unfold Oper.wp
  simp [execOp, hop, hx, hy, hrun, Result.andThen]
  exact hK _ _ h
theorem size_i64 : ∀ w, (sizeOf 3).run Tryd.prog w = .ok 1 w := fun _ => by kernel_rfl
theorem restGo_keep : ∀ (l vs xs ys : List Int), restGo l vs xs = some ys → ∀ m : Nat, (m : Int) ∉ l → ys[m]? = xs[m]?
  | [], _, xs, ys, e, m, _ => by simp only [restGo, Option.some.injEq] at e; rw [e]
  | _ :: _, [], xs, ys, e, m, _ => by simp only [restGo, Option.some.injEq] at e; rw [e]
  | n :: l, v :: vs, xs, ys, e, m, hm => by
    rw [restGo] at e
    split at e
    · rename_i hn
      rw [restGo_keep l vs _ ys e m fun h => hm (List.mem_cons_of_mem _ h), List.getElem?_set_ne]
      intro he
      exact hm (by rw [← he, Int.toNat_of_nonneg hn.1]; exact List.mem_cons_self)
    · cases e
theorem restGo_sv (p : Int) : ∀ (l vs xs ys : List Int), restGo l vs xs = some ys → l.Nodup → vs.length = l.length → xs.length = 72 → l.map (sv ⟨p, ys⟩) = vs
  | [], [], _, _, _, _, _, _ => rfl
  | [], _ :: _, _, _, _, _, h, _ => by simp at h
  | _ :: _, [], _, _, _, _, h, _ => by simp at h
  | n :: l, v :: vs, xs, ys, e, hd, hl, hx => by
    rw [restGo] at e
    split at e
    · rename_i hn
      have ih := restGo_sv p l vs _ ys e (List.nodup_cons.1 hd).2 (by simpa using hl) (by simpa using hx)
      have hk := restGo_keep l vs _ ys e n.toNat (by rw [Int.toNat_of_nonneg hn.1]; exact (List.nodup_cons.1 hd).1)
      rw [List.map_cons, ih]
      congr 1
      unfold sv St.reg
      rw [if_pos hn, List.getD_eq_getElem?_getD, hk]
      have h72 : n.toNat < xs.length := by omega
      simp [h72]
    · cases e
theorem rest_sv {s : St} {st : Int} {live vals : List Int} (h : (rest s st live vals).2 = 0) (hd : live.Nodup) : (rest s st live vals).1.pc = st ∧ saves (rest s st live vals).1 live = vals := by
  unfold rest at h ⊢
  split at h
  · rename_i hl
    rw [if_pos hl]
    cases hg : restGo live vals zeros with
    | none => rw [hg] at h; cases h
    | some ys => exact ⟨rfl, restGo_sv st live vals zeros ys hg hd hl (by simp [zeros])⟩
  · cases h
theorem rest_err {s : St} {st : Int} {live vals : List Int} : ((rest s st live vals).2 = 0) ∨ ((rest s st live vals).2 = 1 ∧ (rest s st live vals).1 = s) := by
  unfold rest
  split
  · split
    · exact .inr ⟨rfl, rfl⟩
    · exact .inl rfl
  · exact .inr ⟨rfl, rfl⟩
theorem nodup_snoc {l : List Int} {n : Int} (h : l.Nodup) (hn : n ∉ l) : (l ++ [n]).Nodup := by
  rw [List.nodup_append]
  exact ⟨h, by simp, fun a ha b hb => by rw [List.mem_singleton.1 hb]; intro e; exact hn (e ▸ ha)⟩
theorem take_mem_next {l : List Int} {j : Nat} {n : Int} (hj : j < l.length) (h : n ∉ l.take j) (hn : l[j] ≠ n) : n ∉ l.take (j + 1) := by
  rw [List.take_succ_eq_append_getElem hj, List.mem_append, List.mem_singleton]
  rintro (h1 | h1)
  · exact h h1
  · exact hn h1.symm
section
variable {dst : Option Tmp} {ty : TypeId} {pos : String} {after : Array Edge} {g : Option (Nat × Bool)} {a : Act} {w : World} {T : Value → World → Prop}
end
set_option maxHeartbeats 4000000 in
theorem again_law (s : St) (hs : s.Ok) (st : Int) (lp : Option Addr) (lc : Nat) (live : List Int) (vp : Option Addr) (vc : Nat) (vals : List Int) (hav : All16 vals) (w : World) (h : RdL 1 iv w lp lc live) (hv : RdL 1 h16 w vp vc vals) (he : EnvN w.heap.size w) :
    Calls Tryd.prog 9 #[.agg (stv s).toArray, .agg #[.int .i64 st, .slice lp live.length lc], .slice vp vals.length vc] w fun e w' => e = .returned (.bool true) ∧ Grew w w' := by
  have hcap := h.cap
  have hmax := h.max
  have hcap2 := hv.cap
  have hmax2 := hv.max
  have HS := Lib.hid hs
  have HX := Lib.hid h
  have HVL := Lib.hid hv
  have HAV := Lib.hid hav
  have HE := Lib.hid he
  obtain ⟨M, hM⟩ : ∃ M, M = w.heap.size := ⟨_, rfl⟩
  rw [← hM] at HE
  have HM := Lib.hid (Nat.le_of_eq hM)
  clear hs h hv hav he hM
  go_enter Tryd.func9, Tryd.ntmps9
  go_upto_region 0 with fail
  refine wp_region_list ?_
  refine wpList_box_whole rfl _ _ rfl (stv s) rfl fun w1 hB1 g1 => ?_
  simp only [List.getElem_toArray, List.getElem_cons_zero, List.getElem_cons_succ, Act.put, mixA, mixL, cond_true, cond_false, List.setIfInBounds_toArray, List.set_cons_zero, List.set_cons_succ]
  refine wpList_box_whole rfl _ _ rfl [.int .i64 st, .slice lp live.length lc] rfl fun V bx g2 => ?_
  simp only [List.getElem_toArray, List.getElem_cons_zero, List.getElem_cons_succ, Act.put, mixA, mixL, cond_true, cond_false, List.setIfInBounds_toArray, List.set_cons_zero, List.set_cons_succ]
  have HG := Lib.hid (g1.trans g2)
  have HSB := Lib.hid (hB1.grew g2)
  generalize w1.heap.size = X at bx ⊢
  generalize w.heap.size = B at HSB ⊢
  clear g1 g2 hB1
  have x0 := bx.cell 0
  have x1 := bx.cell 1
  simp only [List.getElem?_cons_zero, List.getElem?_cons_succ] at x0 x1
  have HEV := Lib.hid (HE.out.grew HG.out)
  by_cases hll : live.length ≤ 72
  case neg =>
    have hb : (72 : Int) < (live.length : Int) := by omega
    go_wp2_with (go_at_call 10; (with_reducible refine (awake_any M _ HEV.out (Nat.le_trans HM.out HG.out.sz)).mono ?_); rintro e w3 ⟨rfl, g3⟩; clear x0 x1; replace bx := bx.grew g3; have x0 := bx.cell 0; have x1 := bx.cell 1; simp only [List.getElem?_cons_zero, List.getElem?_cons_succ] at x0 x1; replace HSB := Lib.hid (HSB.out.grew g3); replace HG := Lib.hid (HG.out.trans g3); clear g3 HEV)
    go_ret
    exact ⟨rfl, HG.out⟩
  have hb : ¬ (72 : Int) < (live.length : Int) := by omega
  go_wp2_with (go_at_call 10; (with_reducible refine (awake_any M _ HEV.out (Nat.le_trans HM.out HG.out.sz)).mono ?_); rintro e w3 ⟨rfl, g3⟩; clear x0 x1; replace bx := bx.grew g3; have x0 := bx.cell 0; have x1 := bx.cell 1; simp only [List.getElem?_cons_zero, List.getElem?_cons_succ] at x0 x1; replace HSB := Lib.hid (HSB.out.grew g3); replace HG := Lib.hid (HG.out.trans g3); clear g3 HEV)
  clear x0 x1
  have HBX := Lib.hid bx
  clear bx
  go_loopg [21] live.length (fun gg iv wr => ∃ (k : Nat), iv = .int .i64 (k : Int) ∧ k ≤ live.length ∧ gg = live.length - k ∧ Hid ((live.take k).Nodup) ∧ wr = w3)
  case atStart => exact ⟨0, rfl, Nat.zero_le _, rfl, Lib.hid (by simp), rfl⟩
  case round =>
    obtain ⟨k, rfl, hk, rfl, HD, rfl⟩ := hrel
    have x0 := HBX.out.cell 0
    have x1 := HBX.out.cell 1
    simp only [List.getElem?_cons_zero, List.getElem?_cons_succ] at x0 x1
    by_cases hlt : k < live.length
    · obtain ⟨b', o', rfl, hcc⟩ := (HX.out.kept HG.out).cells (by omega)
      have d0 : wr.cell? ⟨b', o' + k, none⟩ = some (.int .i64 live[k]) := by have := hcc k live[k] (by simp [hlt]) 0 _ rfl; rw [Nat.mul_one, Nat.add_zero] at this; exact this
      have HLT := Lib.hid (Nat.succ_le_of_lt hlt)
      have HTK := Lib.hid (List.take_succ_eq_append_getElem hlt)
      have HCC := Lib.hid hcc
      generalize live[k] = n at d0 HTK
      clear hcc
      go_wp2_with (refine wpList_cut_hi rfl _ 23 _ rfl Tryd.underlying23 size_i64 _ live.length lc rfl _ k rfl rfl (by omega) hcap hmax ?_)
      clear x0 x1 d0
      go_loopg [31] k (fun gg2 iv2 wr2 => ∃ (j : Nat), iv2 = .int .i64 (j : Int) ∧ j ≤ k ∧ gg2 = k - j ∧ Hid (n ∉ live.take j) ∧ wr2 = wr)
      case atStart => exact ⟨0, rfl, Nat.zero_le _, rfl, Lib.hid (by simp), rfl⟩
      case round =>
        rename_i wq
        obtain ⟨j, rfl, hj, rfl, HNM, rfl⟩ := hrel
        by_cases hlj : j < k
        · have e0 : wr.cell? ⟨b', o' + j, none⟩ = some (.int .i64 live[j]) := by have := HCC.out j live[j] (by simp [show j < live.length by omega]) 0 _ rfl; rw [Nat.mul_one, Nat.add_zero] at this; exact this
          have HLJ := Lib.hid (Nat.succ_le_of_lt hlj)
          by_cases hmn : live[j] = n
          · rw [hmn] at e0
            clear hmn
            go_wp2
            go_ret
            exact ⟨rfl, HG.out⟩
          · have HNX := Lib.hid (take_mem_next (by omega) HNM.out hmn)
            have hbn : (live[j] == n) = false := by simpa using hmn
            generalize live[j] = m at e0 hbn
            clear hmn
            go_wp2
            go_roundg (k - (j + 1))
            case measure => have := HLJ.out; omega
            case rel => exact ⟨j + 1, by go_num, HLJ.out, rfl, HNX, rfl⟩
        · obtain rfl : j = k := by omega
          go_wp2
          go_roundg (live.length - (j + 1))
          case measure => have := HLT.out; omega
          case rel => exact ⟨j + 1, by go_num, HLT.out, rfl, Lib.hid (by rw [HTK.out]; exact nodup_snoc HD.out HNM.out), rfl⟩
    · obtain rfl : k = live.length := by omega
      rw [List.take_length] at HD
      have bx := HBX.out
      clear HBX
      go_upto_region 15 with fail
      refine wp_region_list ?_
      refine load_st Tryd.underlying33 sizeS rfl (.tmp 3) rfl B rfl s HS.out HSB.out ?_
      simp only [List.getElem_toArray, List.getElem_cons_zero, List.getElem_cons_succ, Act.put, mixA, mixL, cond_true, cond_false, List.setIfInBounds_toArray, List.set_cons_zero, List.set_cons_succ]
      refine wpList_runs rfl (some 41) rfl (runs_c1 en_own (ev rfl) ((own_any s HS.out _).mono ?_))
      rintro e w4 ⟨rfl, g4⟩
      refine ⟨_, rfl, ?_⟩
      simp only [List.getElem_toArray, List.getElem_cons_zero, List.getElem_cons_succ, Act.put, mixA, mixL, cond_true, cond_false, List.setIfInBounds_toArray, List.set_cons_zero, List.set_cons_succ]
      refine alloc_cpu rfl rfl fun w5 hC5 g5 => ?_
      simp only [List.getElem_toArray, List.getElem_cons_zero, List.getElem_cons_succ, Act.put, mixA, mixL, cond_true, cond_false, List.setIfInBounds_toArray, List.set_cons_zero, List.set_cons_succ]
      refine store_st sizeC rfl (.tmp 11) (.tmp 41) rfl w4.heap.size rfl s zst HS.out zst_ok rfl hC5 fun w6 hC6 c6 => ?_
      simp only [List.getElem_toArray, List.getElem_cons_zero, List.getElem_cons_succ, Act.put, mixA, mixL, cond_true, cond_false, List.setIfInBounds_toArray, List.set_cons_zero, List.set_cons_succ]
      have g6 : Grew wr w6 := g4.trans (grew_lift g5 c6 fun k hk => by have e : k = w4.heap.size := hk; omega)
      clear x0 x1
      replace bx := bx.grew g6
      have x0 := bx.cell 0
      have x1 := bx.cell 1
      simp only [List.getElem?_cons_zero, List.getElem?_cons_succ] at x0 x1
      replace HSB := Lib.hid (HSB.out.grew g6)
      have HCL : Hid (w.heap.size ≤ w4.heap.size) := Lib.hid (HG.out.trans g4).sz
      replace HG := Lib.hid (HG.out.trans g6)
      have HC := Lib.hid hC6
      generalize w4.heap.size = C at HC HCL hC5 c6 ⊢
      clear g4 hC5 g5 hC6 c6 g6
      have HXC : Hid (X ≠ C) := Lib.hid (bx.ne HC.out (by decide))
      have HBC : Hid (B ≠ C) := Lib.hid (HSB.out.ne HC.out (by decide))
      have HRO := Lib.hid (rest_ok (s := s) HS.out st live HAV.out)
      have hl1 : live.length ≤ 100 := by omega
      have hvb : vals.length ≤ 9223372036854775807 := by omega
      rcases rest_err (s := s) (st := st) (live := live) (vals := vals) with he | ⟨he, hs2⟩
      · have hb3 : ((rest s st live vals).2 != 0) = false := by rw [he]; rfl
        have HSV := Lib.hid (rest_sv he HD.out)
        clear he
        go_upto_region 18 with (go_at_call 23; (with_reducible refine (rest_any C s HS.out st lp lc live hl1 vp vc vals hvb HAV.out _ HC.out (HX.out.kept HG.out) (HVL.out.kept HG.out)).mono ?_); rintro e w8 ⟨rfl, hC8, c8⟩; clear x0 x1; have HBX := Lib.hid (bx.chg c8 (fun e => HXC.out e)); replace HSB := Lib.hid (HSB.out.chg c8 (fun e => HBC.out e)); replace HG := Lib.hid (grew_lift HG.out c8 (fun k hk => (by have e : k = C := hk; have := HCL.out; omega))); replace HC := Lib.hid hC8; clear bx; have bx := HBX.out; have x0 := bx.cell 0; have x1 := bx.cell 1; simp only [List.getElem?_cons_zero, List.getElem?_cons_succ] at x0 x1; clear hC8 c8)
        have c0 : w8.cell? ⟨C, 0, none⟩ = some (.int .i64 (rest s st live vals).1.pc) := HC.out.cell 0
        refine wp_region_list ?_
        refine wpList_runs rfl (some 49) rfl (rn_fld_43_0 (ev rfl) ?_)
        simp only [List.getElem_toArray, List.getElem_cons_zero, List.getElem_cons_succ, Act.put, mixA, mixL, cond_true, cond_false, List.setIfInBounds_toArray, List.set_cons_zero, List.set_cons_succ]
        refine wpList_runs rfl (some 50) rfl (rn_ld_3 (ev rfl) c0 ?_)
        simp only [List.getElem_toArray, List.getElem_cons_zero, List.getElem_cons_succ, Act.put, mixA, mixL, cond_true, cond_false, List.setIfInBounds_toArray, List.set_cons_zero, List.set_cons_succ]
        refine wpList_runs rfl (some 51) rfl (rn_fld_61_0 (ev rfl) ?_)
        simp only [List.getElem_toArray, List.getElem_cons_zero, List.getElem_cons_succ, Act.put, mixA, mixL, cond_true, cond_false, List.setIfInBounds_toArray, List.set_cons_zero, List.set_cons_succ]
        refine wpList_runs rfl (some 52) rfl (rn_ld_3 (ev rfl) x0 ?_)
        simp only [List.getElem_toArray, List.getElem_cons_zero, List.getElem_cons_succ, Act.put, mixA, mixL, cond_true, cond_false, List.setIfInBounds_toArray, List.set_cons_zero, List.set_cons_succ]
        refine wpList_runs rfl (some 53) rfl (runs_to (v := .bool (((rest s st live vals).1.pc) == (st))) (u := .bool (true)) (rn_eql_3 (ev rfl) (ev rfl) ⟨rfl, rfl⟩) (congrArg Value.bool (by rw [HSV.out.1]; simp)) ?_)
        simp only [List.getElem_toArray, List.getElem_cons_zero, List.getElem_cons_succ, Act.put, mixA, mixL, cond_true, cond_false, List.setIfInBounds_toArray, List.set_cons_zero, List.set_cons_succ]
        refine wpList_runs rfl (some 54) rfl (runs_mv (ev rfl) ?_)
        simp only [List.getElem_toArray, List.getElem_cons_zero, List.getElem_cons_succ, Act.put, mixA, mixL, cond_true, cond_false, List.setIfInBounds_toArray, List.set_cons_zero, List.set_cons_succ]
        refine wpList_taken rfl (some 55) rfl (rn_ld_61 (ev rfl) x0 x1 ?_)
        simp only [List.getElem_toArray, List.getElem_cons_zero, List.getElem_cons_succ, Act.put, mixA, mixL, cond_true, cond_false, List.setIfInBounds_toArray, List.set_cons_zero, List.set_cons_succ]
        refine wpList_taken rfl (some 56) rfl (runs_c2 en_sav (ev rfl) (ev rfl) ((save_any C (rest s st live vals).1 HRO.out st lp lc live (by omega) _ HC.out (HX.out.kept HG.out)).mono ?_))
        rintro e w9 ⟨p8, cc8, rfl, hr8, g9⟩
        refine ⟨_, rfl, ?_⟩
        rw [HSV.out.2] at hr8 ⊢
        have HG9 := Lib.hid (HG.out.trans g9)
        have HR8 := Lib.hid hr8
        simp only [List.getElem_toArray, List.getElem_cons_zero, List.getElem_cons_succ, Act.put, mixA, mixL, cond_true, cond_false, List.setIfInBounds_toArray, List.set_cons_zero, List.set_cons_succ]
        refine wpList_taken rfl (some 57) rfl (runs_mv (ev rfl) ?_)
        simp only [List.getElem_toArray, List.getElem_cons_zero, List.getElem_cons_succ, Act.put, mixA, mixL, cond_true, cond_false, List.setIfInBounds_toArray, List.set_cons_zero, List.set_cons_succ]
        refine wpList_taken rfl (some 58) rfl (runs_c2 en_rsm (ev rfl) (ev rfl) ((rsame_self p8 vp cc8 vc vals _ HR8.out (HVL.out.kept HG9.out)).mono ?_))
        rintro e w9 ⟨rfl, ga⟩
        refine ⟨_, rfl, ?_⟩
        have HGA := Lib.hid (HG9.out.trans ga)
        simp only [List.getElem_toArray, List.getElem_cons_zero, List.getElem_cons_succ, Act.put, mixA, mixL, cond_true, cond_false, List.setIfInBounds_toArray, List.set_cons_zero, List.set_cons_succ]
        refine wpList_runs rfl (some 59) rfl (runs_an (ev rfl) (fun hb => ev (rfl)) ?_)
        simp only [List.getElem_toArray, List.getElem_cons_zero, List.getElem_cons_succ, Act.put, mixA, mixL, cond_true, cond_false, List.setIfInBounds_toArray, List.set_cons_zero, List.set_cons_succ]
        refine wpList_runs rfl (some 6) rfl (runs_mva (ev rfl) ?_)
        simp only [List.getElem_toArray, List.getElem_cons_zero, List.getElem_cons_succ, Act.put, mixA, mixL, cond_true, cond_false, List.setIfInBounds_toArray, List.set_cons_zero, List.set_cons_succ]
        go_wp2
        go_ret
        exact ⟨rfl, HGA.out⟩
      · have hb3 : ((rest s st live vals).2 != 0) = true := by rw [he]; rfl
        have HS2 := Lib.hid hs2
        clear he hs2
        go_upto_region 17 with (go_at_call 23; (with_reducible refine (rest_any C s HS.out st lp lc live hl1 vp vc vals hvb HAV.out _ HC.out (HX.out.kept HG.out) (HVL.out.kept HG.out)).mono ?_); rintro e w8 ⟨rfl, hC8, c8⟩; clear x0 x1; have HBX := Lib.hid (bx.chg c8 (fun e => HXC.out e)); replace HSB := Lib.hid (HSB.out.chg c8 (fun e => HBC.out e)); replace HG := Lib.hid (grew_lift HG.out c8 (fun k hk => (by have e : k = C := hk; have := HCL.out; omega))); replace HC := Lib.hid hC8; clear bx; have bx := HBX.out; have x0 := bx.cell 0; have x1 := bx.cell 1; simp only [List.getElem?_cons_zero, List.getElem?_cons_succ] at x0 x1; clear hC8 c8)
        rw [HS2.out] at HC
        refine wp_region_list ?_
        refine wpList_runs rfl (some 46) rfl (runs_ldm 43 (ev rfl) HC.out.range Tryd.underlying43 rfl (by rw [sizeC, stv_len HS.out]) ?_)
        simp only [List.getElem_toArray, List.getElem_cons_zero, List.getElem_cons_succ, Act.put, mixA, mixL, cond_true, cond_false, List.setIfInBounds_toArray, List.set_cons_zero, List.set_cons_succ]
        refine wpList_runs rfl (some 47) rfl (runs_ldm 33 (ev rfl) HSB.out.range Tryd.underlying33 rfl (by rw [sizeS, stv_len HS.out]) ?_)
        simp only [List.getElem_toArray, List.getElem_cons_zero, List.getElem_cons_succ, Act.put, mixA, mixL, cond_true, cond_false, List.setIfInBounds_toArray, List.set_cons_zero, List.set_cons_succ]
        refine wpList_runs rfl (some 48) rfl (runs_c2 en_same (ev rfl) (ev rfl) ((same_self s HS.out _).mono ?_))
        rintro e w9 ⟨rfl, g9⟩
        refine ⟨_, rfl, ?_⟩
        have HG9 := Lib.hid (HG.out.trans g9)
        simp only [List.getElem_toArray, List.getElem_cons_zero, List.getElem_cons_succ, Act.put, mixA, mixL, cond_true, cond_false, List.setIfInBounds_toArray, List.set_cons_zero, List.set_cons_succ]
        refine wpList_runs rfl (some 6) rfl (runs_mva (ev rfl) ?_)
        simp only [List.getElem_toArray, List.getElem_cons_zero, List.getElem_cons_succ, Act.put, mixA, mixL, cond_true, cond_false, List.setIfInBounds_toArray, List.set_cons_zero, List.set_cons_succ]
        go_wp2
        go_ret
        exact ⟨rfl, HG9.out⟩
end Go.Proofs.YtbhglpiiabpdjaaDoor
