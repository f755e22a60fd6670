/-
  LAYER 12 (cpu): Restore of the program and the reference.
-/
import Derived.Test.YtbhglpiiabpdjaaDoorCpuSave
namespace Go.Proofs.YtbhglpiiabpdjaaDoor
open Go Go.RowKit Go.IntWalk Go.WideShapes
set_option linter.unusedSimpArgs false
set_option linter.unusedVariables false
set_option maxRecDepth 8000
def restGo : List Int → List Int → List Int → Option (List Int)
  | n :: l, v :: vs, xs => if 0 ≤ n ∧ n < 72 then restGo l vs (xs.set n.toNat v) else none
  | _, _, xs => some xs
def zeros : List Int := List.replicate 72 0
/-- Restore: the state and the error. -/
def rest (s : St) (st : Int) (live vals : List Int) : St × Int :=
  if vals.length = live.length then (match restGo live vals zeros with | none => (s, 1) | some xs => (⟨st, xs⟩, 0)) else (s, 1)
theorem restGo_in {l vs xs : List Int} {m : Nat} {v : Int} (h : m < 72) : restGo ((m : Int) :: l) (v :: vs) xs = restGo l vs (xs.set m v) := by
  rw [restGo, if_pos (by omega), Int.toNat_natCast]
theorem restGo_out {l vs xs : List Int} {n v : Int} (h : n < 0 ∨ 72 ≤ n) : restGo (n :: l) (v :: vs) xs = none := by
  rw [restGo, if_neg (by omega)]
theorem restGo_ok : ∀ (l vs xs ys : List Int), (⟨0, xs⟩ : St).Ok → All16 vs → restGo l vs xs = some ys → (⟨0, ys⟩ : St).Ok
  | [], _, xs, ys, h, _, e => by simp only [restGo, Option.some.injEq] at e; exact e ▸ h
  | _ :: _, [], xs, ys, h, _, e => by simp only [restGo, Option.some.injEq] at e; exact e ▸ h
  | n :: l, v :: vs, xs, ys, h, hv, e => by
    rw [restGo] at e
    split at e
    · exact restGo_ok l vs _ ys (h.to n.toNat 0 (hv v List.mem_cons_self)) (fun u hu => hv u (List.mem_cons_of_mem _ hu)) e
    · cases e
theorem zeros_ok (p : Int) : (⟨p, zeros⟩ : St).Ok := ⟨by simp [zeros], fun v hv => by rw [List.eq_of_mem_replicate hv]; exact zero16⟩
theorem rest_ok {s : St} (hs : s.Ok) (st : Int) (live : List Int) {vals : List Int} (hv : All16 vals) : (rest s st live vals).1.Ok := by
  unfold rest
  split
  · split
    · exact hs
    · rename_i xs h
      exact (restGo_ok _ _ _ _ (zeros_ok 0) hv h).pc st
  · exact hs
theorem drop_cons {l : List Int} {k : Nat} (h : k < l.length) : l.drop k = l[k] :: l.drop (k + 1) := List.drop_eq_getElem_cons h
theorem built_c0 (p : Int) : Tryd.prog.built CPT [(0, .int .i64 p)] = some (stv ⟨p, zeros⟩).toArray := by kernel_rfl
theorem built_s0 (p : Int) : Tryd.prog.built STT [(0, .int .i64 p)] = some (stv ⟨p, zeros⟩).toArray := by kernel_rfl
theorem rest_no {s : St} {st : Int} {live vals : List Int} (h : vals.length ≠ live.length) : rest s st live vals = (s, 1) := if_neg h
theorem rest_go {s : St} {st : Int} {live vals : List Int} (h : vals.length = live.length) : rest s st live vals = (match restGo live vals zeros with | none => (s, 1) | some xs => (⟨st, xs⟩, 0)) := if_pos h
section
variable {dst : Option Tmp} {ty : TypeId} {pos : String} {after : Array Edge} {g : Option (Nat × Bool)} {a : Act} {w : World} {T : Value → World → Prop}
theorem rn_fld_61_0 {x : Operand} {S o : Nat} (hx : a.eval x = .pointer (some ⟨S, o, none⟩)) (h : T (.pointer (some ⟨S, o, none⟩)) w) : Runs Tryd.prog ⟨dst, .fieldAddr 61 x 0, ty, pos, after, g⟩ a w T := by
  refine Runs.value (v := .pointer (some ⟨S, o, none⟩)) (w' := w) ?_ h
  simp only [execOp, hx]
  go_simp
end
set_option maxHeartbeats 4000000 in
theorem rest_any (c : Nat) (s : St) (hs : s.Ok) (st : Int) (lp : Option Addr) (lc : Nat) (live : List Int) (hll : live.length ≤ 100) (vp : Option Addr) (vc : Nat) (vals : List Int) (hvl : vals.length ≤ 9223372036854775807) (hav : All16 vals) (w : World) (hC : Blk c (stv s) CPT w) (h : RdL 1 iv w lp lc live) (hv : RdL 1 h16 w vp vc vals) :
    Calls Tryd.prog 23 #[.pointer (some ⟨c, 0, none⟩), .agg #[.int .i64 st, .slice lp live.length lc], .slice vp vals.length vc] w fun e w' => e = .returned (.int .i64 (rest s st live vals).2) ∧ Blk c (stv (rest s st live vals).1) CPT w' ∧ Chg w w' (fun k => k = c) := by
  have HC := Lib.hid hC
  have HS := Lib.hid hs
  have HX := Lib.hid h
  have HVL := Lib.hid hv
  have HAV := Lib.hid hav
  have hcap := h.cap
  have hmax := h.max
  have hcap2 := hv.cap
  have hmax2 := hv.max
  have hcl := hC.lt
  clear hC hs h hv hav
  go_enter Tryd.func23, Tryd.ntmps23
  go_upto_region 1 with fail
  generalize hW : World.alloc _ _ = V
  have bx : Blk w.heap.size [.int .i64 st, .slice lp live.length lc] 61 V := by subst hW; exact Blk.new w _ _
  have HG := Lib.hid (show Grew w V by subst hW; exact (Grew.refl _).alloc _)
  clear hW
  have x0 := bx.cell 0
  have x1 := bx.cell 1
  simp only [List.getElem?_cons_zero, List.getElem?_cons_succ] at x0 x1
  by_cases hne : vals.length = live.length
  case neg =>
    have HN := Lib.hid (rest_no (s := s) (st := st) hne)
    have hb : ((vals.length : Int) != (live.length : Int)) = true := by rw [bne_iff_ne]; omega
    clear hne
    go_wp2
    go_ret
    rw [HN.out]
    exact ⟨rfl, HC.out.grew HG.out, Chg.of_grew HG.out _⟩
  have HN := Lib.hid hne
  have hb : ((vals.length : Int) != (live.length : Int)) = false := by rw [hne]; simp
  clear hne
  go_upto_region 3 with fail
  refine wp_region_list ?_
  refine wpList_runs rfl (some 17) rfl (rn_fld_61_0 (ev rfl) ?_)
  simp only [List.getElem_toArray, List.getElem_cons_zero, List.getElem_cons_succ, Act.put, mixA, mixL, cond_true, cond_false, List.setIfInBounds_toArray, List.set_cons_zero, List.set_cons_succ]
  refine wpList_runs rfl (some 18) rfl (rn_ld_3 (ev rfl) x0 ?_)
  simp only [List.getElem_toArray, List.getElem_cons_zero, List.getElem_cons_succ, Act.put, mixA, mixL, cond_true, cond_false, List.setIfInBounds_toArray, List.set_cons_zero, List.set_cons_succ]
  refine wpList_built rfl CPT _ [(0, .tmp 18)] rfl rfl _ (built_c0 st) ?_
  simp only [List.getElem_toArray, List.getElem_cons_zero, List.getElem_cons_succ, Act.put, mixA, mixL, cond_true, cond_false, List.setIfInBounds_toArray, List.set_cons_zero, List.set_cons_succ]
  refine alloc_cpu rfl rfl fun w2 hB2 g2 => ?_
  simp only [List.getElem_toArray, List.getElem_cons_zero, List.getElem_cons_succ, Act.put, mixA, mixL, cond_true, cond_false, List.setIfInBounds_toArray, List.set_cons_zero, List.set_cons_succ]
  refine store_st sizeC rfl (.tmp 7) (.tmp 19) rfl _ rfl ⟨st, zeros⟩ zst (zeros_ok st) zst_ok rfl hB2 fun w3 hB3 c3 => ?_
  simp only [List.getElem_toArray, List.getElem_cons_zero, List.getElem_cons_succ, Act.put, mixA, mixL, cond_true, cond_false, List.setIfInBounds_toArray, List.set_cons_zero, List.set_cons_succ]
  have g3 : Grew V w3 := grew_lift g2 c3 fun k hk => by have e : k = V.heap.size := hk; omega
  have HRV : Hid (w.heap.size ≤ V.heap.size) := Lib.hid HG.out.sz
  obtain ⟨R, hR⟩ : ∃ R, R = V.heap.size := ⟨_, rfl⟩
  rw [← hR] at hB3 ⊢
  have HGW := Lib.hid (Nat.le_of_eq hR.symm)
  replace bx := bx.grew g3
  have HB3 := Lib.hid hB3
  have HG3 := Lib.hid g3
  clear x0 x1 hB2 g2 c3 hB3 g3
  have x0 := bx.cell 0
  have x1 := bx.cell 1
  simp only [List.getElem?_cons_zero, List.getElem?_cons_succ] at x0 x1
  go_wp2
  clear x0 x1 bx hR
  go_loopg [23] live.length (fun gg iv wr => ∃ (k : Nat) (xs : List Int), iv = .int .i64 (k : Int) ∧ k ≤ live.length ∧ gg = live.length - k ∧ Hid (restGo live vals zeros = restGo (live.drop k) (vals.drop k) xs) ∧ Hid (Blk R (stv ⟨st, xs⟩) CPT wr) ∧ Hid ((⟨st, xs⟩ : St).Ok) ∧ Hid (Grew V wr))
  case atStart => exact ⟨0, zeros, rfl, Nat.zero_le _, rfl, Lib.hid rfl, HB3, Lib.hid (zeros_ok st), HG3⟩
  clear HB3 HG3
  case round =>
    obtain ⟨k, xs, rfl, hk, rfl, HE, HB, HOK, HR⟩ := hrel
    by_cases hlt : k < live.length
    · have hvk : k < vals.length := by rw [HN.out]; exact hlt
      obtain ⟨bv, ov, rfl, hcv⟩ := (HVL.out.kept (HG.out.trans HR.out)).cells (by omega)
      have hkv : k < vals.length := by omega
      have e0 : wr.cell? ⟨bv, ov + k, none⟩ = some (.int .i16 vals[k]) := by have := hcv k vals[k] (by simp [hkv]) 0 _ rfl; rw [Nat.mul_one, Nat.add_zero] at this; exact this
      have HI : Hid (I16 vals[k]) := Lib.hid (HAV.out _ (List.getElem_mem hkv))
      have HDV := Lib.hid (drop_cons hkv)
      have HDL := Lib.hid (drop_cons hlt)
      have hlv : bv < wr.heap.size := World.block_lt_of_cell? _ _ e0
      generalize vals[k] = v at e0 HI HDV
      clear hcv hkv
      obtain ⟨b', o', rfl, hcc⟩ := (HX.out.kept (HG.out.trans HR.out)).cells (by omega)
      have hx : live[k]? = some live[k] := by simp [hlt]
      have d0 : wr.cell? ⟨b', o' + k, none⟩ = some (.int .i64 live[k]) := by have := hcc k live[k] hx 0 _ rfl; rw [Nat.mul_one, Nat.add_zero] at this; exact this
      have HLT := Lib.hid (Nat.succ_le_of_lt hlt)
      generalize live[k] = n at d0 HDL
      clear hcc hx
      have HT : Hid (restGo live vals zeros = restGo (n :: live.drop (k + 1)) (v :: vals.drop (k + 1)) xs) := Lib.hid (by rw [HE.out, HDL.out, HDV.out])
      clear HE HDV HDL
      rcases loc_cases n with hn | ⟨m, hm, rfl⟩
      · have HL := Lib.hid hn
        have HT2 := Lib.hid (HT.out.trans (restGo_out hn))
        clear hn
        go_wp2_with (go_at_call 44; (with_reducible refine (loc_out R n HL.out _).mono ?_); rintro e w2 ⟨rfl, hw2⟩; subst hw2; skip)
        go_ret
        rw [rest_go HN.out, HT2.out]
        exact ⟨rfl, (HC.out.grew HG.out).grew HR.out, Chg.of_grew (HG.out.trans HR.out) _⟩
      · have HL := Lib.hid hm
        have HT2 := Lib.hid (HT.out.trans (restGo_in hm))
        have r0 : wr.cell? ⟨R, 1 + m, none⟩ = some (.int .i16 ((⟨st, xs⟩ : St).reg m)) := by rw [HB.out.cell]; exact stv_at HOK.out hm
        have rf := HB.out.free (1 + m)
        clear hm
        go_wp2_with (go_at_call 44; (with_reducible refine (loc_in R m HL.out _).mono ?_); rintro e w2 ⟨rfl, hw2⟩; subst hw2; skip)
        go_roundg (live.length - (k + 1))
        case measure => have := HLT.out; omega
        case rel => exact ⟨k + 1, xs.set m v, by go_num, HLT.out, rfl, HT2, Lib.hid (by have := HB.out.set (1 + m) (.int .i16 v); rw [stv_set] at this; exact this), Lib.hid (HOK.out.to m st HI.out), Lib.hid (HR.out.sc HGW.out _ _)⟩
    · obtain rfl : k = live.length := by omega
      have HT : Hid (rest s st live vals = (⟨st, xs⟩, 0)) := Lib.hid (by rw [rest_go HN.out, HE.out, List.drop_length]; cases vals.drop live.length <;> rfl)
      have hC2 := (HC.out.grew HG.out).grew HR.out
      go_upto_region 12 with fail
      refine wp_region_list ?_
      refine wpList_runs rfl (some 39) rfl (runs_mv (ev rfl) ?_)
      simp only [List.getElem_toArray, List.getElem_cons_zero, List.getElem_cons_succ, Act.put, mixA, mixL, cond_true, cond_false, List.setIfInBounds_toArray, List.set_cons_zero, List.set_cons_succ]
      refine load_st Tryd.underlying43 sizeC rfl (.tmp 7) rfl R rfl ⟨st, xs⟩ HOK.out HB.out ?_
      simp only [List.getElem_toArray, List.getElem_cons_zero, List.getElem_cons_succ, Act.put, mixA, mixL, cond_true, cond_false, List.setIfInBounds_toArray, List.set_cons_zero, List.set_cons_succ]
      refine wpList_runs rfl (some 41) rfl (rn_nil (ev rfl) ?_)
      simp only [List.getElem_toArray, List.getElem_cons_zero, List.getElem_cons_succ, Act.put, mixA, mixL, cond_true, cond_false, List.setIfInBounds_toArray, List.set_cons_zero, List.set_cons_succ]
      refine store_st sizeC rfl (.tmp 41) (.tmp 40) rfl c rfl ⟨st, xs⟩ s HOK.out HS.out rfl hC2 fun w5 hB5 c5 => ?_
      simp only [List.getElem_toArray, List.getElem_cons_zero, List.getElem_cons_succ, Act.put, mixA, mixL, cond_true, cond_false, List.setIfInBounds_toArray, List.set_cons_zero, List.set_cons_succ]
      have HC5 := Lib.hid (Chg.trans (Chg.of_grew (HG.out.trans HR.out) _) c5)
      have HB5 := Lib.hid hB5
      clear hC2 hB5 c5
      go_wp2
      go_ret
      rw [HT.out]
      exact ⟨rfl, HB5.out, HC5.out⟩
set_option maxHeartbeats 4000000 in
theorem rrest_any (s : St) (hs : s.Ok) (st : Int) (lp : Option Addr) (lc : Nat) (live : List Int) (hll : live.length ≤ 100) (vp : Option Addr) (vc : Nat) (vals : List Int) (hvl : vals.length ≤ 9223372036854775807) (hav : All16 vals) (w : World) (h : RdL 1 iv w lp lc live) (hv : RdL 1 h16 w vp vc vals) :
    Calls Tryd.prog 24 #[.agg (stv s).toArray, .agg #[.int .i64 st, .slice lp live.length lc], .slice vp vals.length vc] w fun e w' => e = .returned (.tuple #[.agg (stv (rest s st live vals).1).toArray, .int .i64 (rest s st live vals).2]) ∧ Grew w w' := by
  have HS := Lib.hid hs
  have HX := Lib.hid h
  have HVL := Lib.hid hv
  have HAV := Lib.hid hav
  have hcap := h.cap
  have hmax := h.max
  have hcap2 := hv.cap
  have hmax2 := hv.max
  clear hs h hv hav
  go_enter Tryd.func24, Tryd.ntmps24
  go_upto_region 0 with fail
  refine wp_region_list ?_
  refine wpList_box_whole rfl _ _ rfl (stv s) rfl fun w1 hB1 g1 => ?_
  simp only [List.getElem_toArray, List.getElem_cons_zero, List.getElem_cons_succ, Act.put, mixA, mixL, cond_true, cond_false, List.setIfInBounds_toArray, List.set_cons_zero, List.set_cons_succ]
  refine wpList_box_whole rfl _ _ rfl [.int .i64 st, .slice lp live.length lc] rfl fun w2 bx g2 => ?_
  simp only [List.getElem_toArray, List.getElem_cons_zero, List.getElem_cons_succ, Act.put, mixA, mixL, cond_true, cond_false, List.setIfInBounds_toArray, List.set_cons_zero, List.set_cons_succ]
  refine alloc_st rfl rfl fun V hO g3 => ?_
  simp only [List.getElem_toArray, List.getElem_cons_zero, List.getElem_cons_succ, Act.put, mixA, mixL, cond_true, cond_false, List.setIfInBounds_toArray, List.set_cons_zero, List.set_cons_succ]
  have HG := Lib.hid ((g1.trans g2).trans g3)
  have hB := (hB1.grew g2).grew g3
  replace bx := bx.grew g3
  have HOL : Hid (w.heap.size ≤ w2.heap.size) := Lib.hid (g1.trans g2).sz
  generalize w2.heap.size = O at hO HOL ⊢
  generalize w1.heap.size = X at bx ⊢
  have HSB := Lib.hid hB
  have HO := Lib.hid hO
  have HBO : Hid (w.heap.size < V.heap.size) := Lib.hid hB.lt
  generalize w.heap.size = B at HSB hB
  clear g1 g2 g3 hB1 hB hO
  have x0 := bx.cell 0
  have x1 := bx.cell 1
  simp only [List.getElem?_cons_zero, List.getElem?_cons_succ] at x0 x1
  by_cases hne : vals.length = live.length
  case neg =>
    have HN := Lib.hid (rest_no (s := s) (st := st) hne)
    have hb : ((vals.length : Int) != (live.length : Int)) = true := by rw [bne_iff_ne]; omega
    clear hne
    go_upto_region 2 with fail
    refine wp_region_list ?_
    refine load_st Tryd.underlying33 sizeS rfl (.tmp 3) rfl B rfl s HS.out HSB.out ?_
    simp only [List.getElem_toArray, List.getElem_cons_zero, List.getElem_cons_succ, Act.put, mixA, mixL, cond_true, cond_false, List.setIfInBounds_toArray, List.set_cons_zero, List.set_cons_succ]
    refine store_st sizeS rfl (.tmp 6) (.tmp 17) rfl O rfl s zst HS.out zst_ok rfl HO.out fun w5 hB5 c5 => ?_
    simp only [List.getElem_toArray, List.getElem_cons_zero, List.getElem_cons_succ, Act.put, mixA, mixL, cond_true, cond_false, List.setIfInBounds_toArray, List.set_cons_zero, List.set_cons_succ]
    refine wpList_runs rfl (some 7) rfl (runs_mva (v := .int .i64 1) rfl ?_)
    simp only [List.getElem_toArray, List.getElem_cons_zero, List.getElem_cons_succ, Act.put, mixA, mixL, cond_true, cond_false, List.setIfInBounds_toArray, List.set_cons_zero, List.set_cons_succ]
    have HG5 : Hid (Grew w w5) := Lib.hid (grew_lift HG.out c5 fun k hk => by have e : k = O := hk; have := HOL.out; omega)
    clear c5
    go_wp2
    refine ret_st Tryd.results24 HS.out rfl rfl hB5 ?_
    rw [HN.out]
    exact ⟨rfl, HG5.out⟩
  have HN := Lib.hid hne
  have hb : ((vals.length : Int) != (live.length : Int)) = false := by rw [hne]; simp
  clear hne
  go_upto_region 3 with fail
  refine wp_region_list ?_
  refine wpList_runs rfl (some 18) rfl (rn_fld_61_0 (ev rfl) ?_)
  simp only [List.getElem_toArray, List.getElem_cons_zero, List.getElem_cons_succ, Act.put, mixA, mixL, cond_true, cond_false, List.setIfInBounds_toArray, List.set_cons_zero, List.set_cons_succ]
  refine wpList_runs rfl (some 19) rfl (rn_ld_3 (ev rfl) x0 ?_)
  simp only [List.getElem_toArray, List.getElem_cons_zero, List.getElem_cons_succ, Act.put, mixA, mixL, cond_true, cond_false, List.setIfInBounds_toArray, List.set_cons_zero, List.set_cons_succ]
  refine wpList_built rfl STT _ [(0, .tmp 19)] rfl rfl _ (built_s0 st) ?_
  simp only [List.getElem_toArray, List.getElem_cons_zero, List.getElem_cons_succ, Act.put, mixA, mixL, cond_true, cond_false, List.setIfInBounds_toArray, List.set_cons_zero, List.set_cons_succ]
  refine alloc_st rfl rfl fun w2 hB2 g2 => ?_
  simp only [List.getElem_toArray, List.getElem_cons_zero, List.getElem_cons_succ, Act.put, mixA, mixL, cond_true, cond_false, List.setIfInBounds_toArray, List.set_cons_zero, List.set_cons_succ]
  refine store_st sizeS rfl (.tmp 8) (.tmp 20) rfl _ rfl ⟨st, zeros⟩ zst (zeros_ok st) zst_ok rfl hB2 fun w3 hB3 c3 => ?_
  simp only [List.getElem_toArray, List.getElem_cons_zero, List.getElem_cons_succ, Act.put, mixA, mixL, cond_true, cond_false, List.setIfInBounds_toArray, List.set_cons_zero, List.set_cons_succ]
  have g3 : Grew V w3 := grew_lift g2 c3 fun k hk => by have e : k = V.heap.size := hk; omega
  obtain ⟨R, hR⟩ : ∃ R, R = V.heap.size := ⟨_, rfl⟩
  rw [← hR] at hB3 ⊢
  have HGW := Lib.hid (Nat.le_of_eq hR.symm)
  replace bx := bx.grew g3
  have HB3 := Lib.hid hB3
  have HG3 := Lib.hid g3
  clear x0 x1 hB2 g2 c3 hB3 g3
  have x0 := bx.cell 0
  have x1 := bx.cell 1
  simp only [List.getElem?_cons_zero, List.getElem?_cons_succ] at x0 x1
  go_wp2
  clear x0 x1 bx hR
  go_loopg [24] live.length (fun gg iv wr => ∃ (k : Nat) (xs : List Int), iv = .int .i64 (k : Int) ∧ k ≤ live.length ∧ gg = live.length - k ∧ Hid (restGo live vals zeros = restGo (live.drop k) (vals.drop k) xs) ∧ Hid (Blk R (stv ⟨st, xs⟩) STT wr) ∧ Hid ((⟨st, xs⟩ : St).Ok) ∧ Hid (Grew V wr))
  case atStart => exact ⟨0, zeros, rfl, Nat.zero_le _, rfl, Lib.hid rfl, HB3, Lib.hid (zeros_ok st), HG3⟩
  clear HB3 HG3
  case round =>
    obtain ⟨k, xs, rfl, hk, rfl, HE, HB, HOK, HR⟩ := hrel
    by_cases hlt : k < live.length
    · have hvk : k < vals.length := by rw [HN.out]; exact hlt
      obtain ⟨bv, ov, rfl, hcv⟩ := (HVL.out.kept (HG.out.trans HR.out)).cells (by omega)
      have hkv : k < vals.length := by omega
      have e0 : wr.cell? ⟨bv, ov + k, none⟩ = some (.int .i16 vals[k]) := by have := hcv k vals[k] (by simp [hkv]) 0 _ rfl; rw [Nat.mul_one, Nat.add_zero] at this; exact this
      have HI : Hid (I16 vals[k]) := Lib.hid (HAV.out _ (List.getElem_mem hkv))
      have HDV := Lib.hid (drop_cons hkv)
      have HDL := Lib.hid (drop_cons hlt)
      have hlv : bv < wr.heap.size := World.block_lt_of_cell? _ _ e0
      generalize vals[k] = v at e0 HI HDV
      clear hcv hkv
      obtain ⟨b', o', rfl, hcc⟩ := (HX.out.kept (HG.out.trans HR.out)).cells (by omega)
      have hx : live[k]? = some live[k] := by simp [hlt]
      have d0 : wr.cell? ⟨b', o' + k, none⟩ = some (.int .i64 live[k]) := by have := hcc k live[k] hx 0 _ rfl; rw [Nat.mul_one, Nat.add_zero] at this; exact this
      have HLT := Lib.hid (Nat.succ_le_of_lt hlt)
      generalize live[k] = n at d0 HDL
      clear hcc hx
      have HT : Hid (restGo live vals zeros = restGo (n :: live.drop (k + 1)) (v :: vals.drop (k + 1)) xs) := Lib.hid (by rw [HE.out, HDL.out, HDV.out])
      clear HE HDV HDL
      rcases loc_cases n with hn | ⟨m, hm, rfl⟩
      · have HBB : Hid ((decide (0 ≤ n) && decide (n < 72)) = false) := Lib.hid (by simp; omega)
        have HT2 := Lib.hid (HT.out.trans (restGo_out hn))
        clear hn
        go_upto_region 9 with (go_at_call 45; (with_reducible refine (rloc_is _ false HBB.out _).mono ?_); rintro e w4 ⟨rfl, hw4⟩; subst w4)
        refine wp_region_list ?_
        refine load_st Tryd.underlying33 sizeS rfl (.tmp 3) rfl B rfl s HS.out (HSB.out.grew HR.out) ?_
        simp only [List.getElem_toArray, List.getElem_cons_zero, List.getElem_cons_succ, Act.put, mixA, mixL, cond_true, cond_false, List.setIfInBounds_toArray, List.set_cons_zero, List.set_cons_succ]
        refine store_st sizeS rfl (.tmp 6) (.tmp 41) rfl O rfl s zst HS.out zst_ok rfl (HO.out.grew HR.out) fun w5 hB5 c5 => ?_
        simp only [List.getElem_toArray, List.getElem_cons_zero, List.getElem_cons_succ, Act.put, mixA, mixL, cond_true, cond_false, List.setIfInBounds_toArray, List.set_cons_zero, List.set_cons_succ]
        refine wpList_runs rfl (some 7) rfl (runs_mva (v := .int .i64 1) rfl ?_)
        simp only [List.getElem_toArray, List.getElem_cons_zero, List.getElem_cons_succ, Act.put, mixA, mixL, cond_true, cond_false, List.setIfInBounds_toArray, List.set_cons_zero, List.set_cons_succ]
        have HG5 : Hid (Grew w w5) := Lib.hid (grew_lift (HG.out.trans HR.out) c5 fun k hk => by have e : k = O := hk; have := HOL.out; omega)
        clear c5
        go_wp2
        refine ret_st Tryd.results24 HS.out rfl rfl hB5 ?_
        rw [rest_go HN.out, HT2.out]
        exact ⟨rfl, HG5.out⟩
      · have HBB : Hid ((decide (0 ≤ ((m : Nat) : Int)) && decide (((m : Nat) : Int) < 72)) = true) := Lib.hid (by simp; omega)
        have HT2 := Lib.hid (HT.out.trans (restGo_in hm))
        have rf := fun i => HB.out.free i
        have HNX : Hid (Blk R (stv ⟨st, xs.set m v⟩) STT (wr.setCell ⟨R, 1 + m, none⟩ (.int .i16 v))) := Lib.hid (by have := HB.out.set (1 + m) (.int .i16 v); rw [stv_set] at this; exact this)
        have HNO := Lib.hid (HOK.out.to m st HI.out)
        rcases Nat.lt_or_ge m 8 with h8 | h8
        · have r0 : wr.cell? ⟨R, 1 + m, none⟩ = some (.int .i16 ((⟨st, xs⟩ : St).reg m)) := by rw [HB.out.cell]; exact stv_at HOK.out hm
          have h9 : (m : Int) < 8 := by omega
          clear hm
          go_wp2_with (go_at_call 45; (with_reducible refine (rloc_is _ true HBB.out _).mono ?_); rintro e w4 ⟨rfl, hw4⟩; subst w4)
          go_roundg (live.length - (k + 1))
          case measure => have := HLT.out; omega
          case rel => exact ⟨k + 1, xs.set m v, by go_num, HLT.out, rfl, HT2, HNX, HNO, Lib.hid (HR.out.sc HGW.out _ _)⟩
        · obtain ⟨j, rfl⟩ : ∃ j, m = 8 + j := ⟨m - 8, by omega⟩
          have r0 : wr.cell? ⟨R, 9 + j, none⟩ = some (.int .i16 ((⟨st, xs⟩ : St).reg (8 + j))) := by rw [HB.out.cell, show 9 + j = 1 + (8 + j) by omega]; exact stv_at HOK.out hm
          rw [show 1 + (8 + j) = 9 + j by omega] at HNX
          obtain ⟨y, hy, hy8, hyj, hyi⟩ : ∃ y : Int, y = ((8 + j : Nat) : Int) ∧ ¬ y < 8 ∧ y - 8 = (j : Int) ∧ j < 64 := ⟨_, rfl, by omega, by omega, by omega⟩
          rw [← hy] at d0 HBB
          clear hm h8 hy
          go_wp2_with (go_at_call 45; (with_reducible refine (rloc_is _ true HBB.out _).mono ?_); rintro e w4 ⟨rfl, hw4⟩; subst w4)
          go_roundg (live.length - (k + 1))
          case measure => have := HLT.out; omega
          case rel => exact ⟨k + 1, xs.set (8 + j) v, by go_num, HLT.out, rfl, HT2, HNX, HNO, Lib.hid (HR.out.sc HGW.out _ _)⟩
    · obtain rfl : k = live.length := by omega
      have HT : Hid (rest s st live vals = (⟨st, xs⟩, 0)) := Lib.hid (by rw [rest_go HN.out, HE.out, List.drop_length]; cases vals.drop live.length <;> rfl)
      go_upto_region 13 with fail
      refine wp_region_list ?_
      refine load_st Tryd.underlying33 sizeS rfl (.tmp 8) rfl R rfl ⟨st, xs⟩ HOK.out HB.out ?_
      simp only [List.getElem_toArray, List.getElem_cons_zero, List.getElem_cons_succ, Act.put, mixA, mixL, cond_true, cond_false, List.setIfInBounds_toArray, List.set_cons_zero, List.set_cons_succ]
      refine store_st sizeS rfl (.tmp 6) (.tmp 53) rfl O rfl ⟨st, xs⟩ zst HOK.out zst_ok rfl (HO.out.grew HR.out) fun w5 hB5 c5 => ?_
      simp only [List.getElem_toArray, List.getElem_cons_zero, List.getElem_cons_succ, Act.put, mixA, mixL, cond_true, cond_false, List.setIfInBounds_toArray, List.set_cons_zero, List.set_cons_succ]
      refine wpList_runs rfl (some 7) rfl (runs_mva (v := .int .i64 0) rfl ?_)
      simp only [List.getElem_toArray, List.getElem_cons_zero, List.getElem_cons_succ, Act.put, mixA, mixL, cond_true, cond_false, List.setIfInBounds_toArray, List.set_cons_zero, List.set_cons_succ]
      have HG5 : Hid (Grew w w5) := Lib.hid (grew_lift (HG.out.trans HR.out) c5 fun k hk => by have e : k = O := hk; have := HOL.out; omega)
      clear c5
      go_wp2
      refine ret_st Tryd.results24 HOK.out rfl rfl hB5 ?_
      rw [HT.out]
      exact ⟨rfl, HG5.out⟩
end Go.Proofs.YtbhglpiiabpdjaaDoor
