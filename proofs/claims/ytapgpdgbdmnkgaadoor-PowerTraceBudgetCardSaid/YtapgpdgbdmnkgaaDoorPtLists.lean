/-
  CONTRACTS OF LAYER 13 (powertrace) ON LISTS OF PERIODS: Valid of the program and of the reference, Same, copied.
-/
import Derived.Test.YtapgpdgbdmnkgaaDoorPtLib
namespace Go.Proofs.YtapgpdgbdmnkgaaDoor
open Go Go.RowKit Go.IntWalk
set_option linter.unusedSimpArgs false
set_option linter.unusedVariables false
set_option maxRecDepth 8000

section
variable {dst : Option Tmp} {ty : TypeId} {pos : String} {after : Array Edge} {g : Option (Nat × Bool)} {a : Act} {w : World} {T : Value → World → Prop}
theorem rn_idx_22 {x y : Operand} {b o n c : Nat} (i : Nat) (hx : a.eval x = .slice (some ⟨b, o, none⟩) n c) (hy : a.eval y = .int .i64 (i : Int)) (hi : i < n) (h : T (.pointer (some ⟨b, o + i * 2, none⟩)) w) : Runs Tryd.prog ⟨dst, .indexAddr 22 x y, ty, pos, after, g⟩ a w T := by
  have hi2 : (i : Int) < (n : Int) := by omega
  refine Runs.value (v := .pointer (some ⟨b, o + i * 2, none⟩)) (w' := w) ?_ h
  simp only [execOp, hx, hy]
  go_simp
theorem rn_ld_52 {x : Operand} {S o : Nat} {v0 v1 : Value} (hx : a.eval x = .pointer (some ⟨S, o, none⟩)) (h0 : w.cell? ⟨S, o, none⟩ = some v0) (h1 : w.cell? ⟨S, o + 1, none⟩ = some v1) (h : T (.agg #[v0, v1]) w) : Runs Tryd.prog ⟨dst, .load 52 x, ty, pos, after, g⟩ a w T := by
  refine Runs.value (v := .agg #[v0, v1]) (w' := w) ?_ h
  simp only [execOp, hx]
  go_simp
theorem rn_neq_52 {o1 o2 : Operand} {b0 c0 b1 c1 : Int} (hx : a.eval o1 = .agg #[.int .i64 b0, .int .i64 b1]) (hy : a.eval o2 = .agg #[.int .i64 c0, .int .i64 c1]) (h : T (.bool (!((b0 == c0) && (b1 == c1)))) w) : Runs Tryd.prog ⟨dst, .binOp .neq 52 o1 o2 52, ty, pos, after, g⟩ a w T := by
  refine Runs.value (v := .bool (!((b0 == c0) && (b1 == c1)))) (w' := w) ?_ h
  simp only [execOp, hx, hy]
  go_simp
  by_cases e0 : b0 = c0 <;> by_cases e1 : b1 = c1 <;> simp [e0, e1]
end
set_option maxHeartbeats 2000000 in
theorem valid_any (p : Option Addr) (n c : Nat) (xs : List It) (w : World) (h : Rw 2 itc w p c xs) (hn : xs.length = n) :
    Calls Tryd.prog 14 #[.slice p n c] w fun e w' => e = .returned (.bool (okL xs)) ∧ Grew w w' := by
  subst hn
  have HX := Lib.hid h
  have hcap := h.cap
  have hmax := h.max
  clear h
  go_enter Tryd.func14, Tryd.ntmps14
  go_wp2
  go_loopg [7] xs.length (fun gg iv wr => ∃ (k : Nat), iv = .int .i64 (k : Int) ∧ k ≤ xs.length ∧ gg = xs.length - k ∧ Hid (okL (xs.take k) = true) ∧ Hid (Grew w wr))
  case atStart => exact ⟨0, rfl, Nat.zero_le _, rfl, Lib.hid rfl, Lib.hid (Grew.refl _)⟩
  case round =>
    obtain ⟨k, rfl, hk, rfl, HO, HG⟩ := hrel
    by_cases hlt : k < xs.length
    · obtain ⟨b', o', rfl, hcc⟩ := (HX.out.kept HG.out).rd.cells (by omega)
      have hx : xs[k]? = some xs[k] := by simp [hlt]
      have hc1 := hcc k xs[k] hx
      have hlb : b' < wr.heap.size := World.block_lt_of_cell? _ _ (hc1 0 _ rfl)
      have HLT := Lib.hid (Nat.succ_le_of_lt hlt)
      have HTK := Lib.hid (List.take_succ_eq_append_getElem hlt)
      generalize xs[k] = a at hc1 hx HTK
      have d0 : wr.cell? ⟨b', o' + k * 2, none⟩ = some (.int .i64 a.1) := by simpa using hc1 0 _ rfl
      have d1 : wr.cell? ⟨b', o' + k * 2 + 1, none⟩ = some (.int .i64 a.2) := hc1 1 _ rfl
      have HXK := Lib.hid hx
      clear hcc hc1 hx
      cases hq : okP a
      all_goals
        have HC := Lib.hid (fun W => vperiod_any a W)
        have HQ := Lib.hid hq
        rw [hq] at HC
        clear hq
        go_wp2_with (go_at_call 34; generalize hW : World.alloc _ _ = V; have hg : Grew wr V := (by subst hW; exact (Grew.refl _).alloc _); clear hW; (with_reducible refine (HC.out _).mono ?_); rintro e w1 ⟨rfl, g1⟩; have HG1 := Lib.hid (HG.out.trans (hg.trans g1)); clear g1 hg)
      · go_ret
        refine ⟨ret_bool (Bool.eq_false_iff.2 fun h => ?_).symm, HG1.out⟩
        have h1 := okL_mem h a (List.mem_of_getElem? HXK.out)
        rw [HQ.out] at h1
        cases h1
      · go_roundg (xs.length - (k + 1))
        case measure => have := HLT.out; omega
        case rel => exact ⟨k + 1, by go_num, HLT.out, rfl, Lib.hid (by rw [HTK.out]; exact okL_of fun y hy => (List.mem_append.1 hy).elim (okL_mem HO.out y) (fun h => by rw [List.mem_singleton.1 h]; exact HQ.out)), HG1⟩
    · obtain rfl : k = xs.length := by omega
      rw [List.take_length] at HO
      go_wp2
      go_ret
      exact ⟨ret_bool HO.out.symm, HG.out⟩
set_option maxHeartbeats 2000000 in
theorem rvalid_any (p : Option Addr) (n c : Nat) (xs : List It) (w : World) (h : Rw 2 itc w p c xs) (hn : xs.length = n) :
    Calls Tryd.prog 15 #[.slice p n c] w fun e w' => e = .returned (.bool (okL xs)) ∧ Grew w w' := by
  subst hn
  have HX := Lib.hid h
  have hcap := h.cap
  have hmax := h.max
  clear h
  go_enter Tryd.func15, Tryd.ntmps15
  go_wp2
  go_loopg [3] xs.length (fun gg iv wr => ∃ (k : Nat), iv = .int .i64 (k : Int) ∧ k ≤ xs.length ∧ gg = xs.length - k ∧ Hid (okL (xs.take k) = true) ∧ Hid (Grew w wr))
  case atStart => exact ⟨0, rfl, Nat.zero_le _, rfl, Lib.hid rfl, Lib.hid (Grew.refl _)⟩
  case round =>
    obtain ⟨k, rfl, hk, rfl, HO, HG⟩ := hrel
    by_cases hlt : k < xs.length
    · obtain ⟨b', o', rfl, hcc⟩ := (HX.out.kept HG.out).rd.cells (by omega)
      have hx : xs[k]? = some xs[k] := by simp [hlt]
      have hc1 := hcc k xs[k] hx
      have hlb : b' < wr.heap.size := World.block_lt_of_cell? _ _ (hc1 0 _ rfl)
      have HLT := Lib.hid (Nat.succ_le_of_lt hlt)
      have HTK := Lib.hid (List.take_succ_eq_append_getElem hlt)
      generalize xs[k] = a at hc1 hx HTK
      have d0 : wr.cell? ⟨b', o' + k * 2, none⟩ = some (.int .i64 a.1) := by simpa using hc1 0 _ rfl
      have d1 : wr.cell? ⟨b', o' + k * 2 + 1, none⟩ = some (.int .i64 a.2) := hc1 1 _ rfl
      have HXK := Lib.hid hx
      clear hcc hc1 hx
      cases hq : okP a
      all_goals
        have HC := Lib.hid (fun W => right_any a W)
        have HQ := Lib.hid hq
        rw [hq] at HC
        clear hq
        go_wp2_with (go_at_call 35; (with_reducible refine (HC.out _).mono ?_); rintro e w1 ⟨rfl, g1⟩; have HG1 := Lib.hid (HG.out.trans g1); clear g1)
      · go_ret
        refine ⟨ret_bool (Bool.eq_false_iff.2 fun h => ?_).symm, HG1.out⟩
        have h1 := okL_mem h a (List.mem_of_getElem? HXK.out)
        rw [HQ.out] at h1
        cases h1
      · go_roundg (xs.length - (k + 1))
        case measure => have := HLT.out; omega
        case rel => exact ⟨k + 1, by go_num, HLT.out, rfl, Lib.hid (by rw [HTK.out]; exact okL_of fun y hy => (List.mem_append.1 hy).elim (okL_mem HO.out y) (fun h => by rw [List.mem_singleton.1 h]; exact HQ.out)), HG1⟩
    · obtain rfl : k = xs.length := by omega
      rw [List.take_length] at HO
      go_wp2
      go_ret
      exact ⟨ret_bool HO.out.symm, HG.out⟩
theorem Grew.below {a w w' : World} (h : Grew a w) (h' : Below a.heap.size w w') : Grew a w' := Below.trans h h'
theorem Grew.atv {q : Addr} {v : Value} {w w' : World} (hg : Grew w w') (h : Atv q v w) : Atv q v w' := h.grew hg
set_option maxHeartbeats 2000000 in
theorem same_any (p : Option Addr) (n c : Nat) (xs : List It) (q : Option Addr) (m d : Nat) (ys : List It) (w : World) (h : Rw 2 itc w p c xs) (hn : xs.length = n) (h' : Rw 2 itc w q d ys) (hm : ys.length = m) :
    Calls Tryd.prog 18 #[.slice p n c, .slice q m d] w fun e w' => e = .returned (.bool (decide (xs = ys))) ∧ Grew w w' := by
  by_cases hne : n = m
  · subst hne
    have HX := Lib.hid h
    have HY := Lib.hid h'
    have hcap := h.cap
    have hmax := h.max
    have HN := Lib.hid hn
    have HM := Lib.hid hm
    rw [hn] at hcap
    clear h h' hn hm
    go_enter Tryd.func18, Tryd.ntmps18
    go_wp2
    go_loopg [5] n (fun gg iv wr => ∃ (k : Nat), iv = .int .i64 (k : Int) ∧ k ≤ n ∧ gg = n - k ∧ Hid (xs.take k = ys.take k) ∧ Hid (Grew w wr))
    case atStart => exact ⟨0, rfl, Nat.zero_le _, rfl, Lib.hid rfl, Lib.hid (Grew.refl _)⟩
    case round =>
      obtain ⟨k, rfl, hk, rfl, HT, HG⟩ := hrel
      by_cases hlt : k < n
      · have lx : k < xs.length := by rw [HN.out]; exact hlt
        have ly : k < ys.length := by rw [HM.out]; exact hlt
        obtain ⟨b1, o1, rfl, hc1⟩ := (HX.out.kept HG.out).rd.cells (by omega)
        obtain ⟨b2, o2, rfl, hc2⟩ := (HY.out.kept HG.out).rd.cells (by omega)
        have d0 : Atv ⟨b1, o1 + k * 2, none⟩ (.int .i64 xs[k].1) wr := by have := hc1 k xs[k] (by simp [lx]) 0 _ rfl; rwa [Nat.add_zero] at this
        have d1 : Atv ⟨b1, o1 + k * 2 + 1, none⟩ (.int .i64 xs[k].2) wr := hc1 k xs[k] (by simp [lx]) 1 _ rfl
        have e0 : Atv ⟨b2, o2 + k * 2, none⟩ (.int .i64 ys[k].1) wr := by have := hc2 k ys[k] (by simp [ly]) 0 _ rfl; rwa [Nat.add_zero] at this
        have e1 : Atv ⟨b2, o2 + k * 2 + 1, none⟩ (.int .i64 ys[k].2) wr := hc2 k ys[k] (by simp [ly]) 1 _ rfl
        have HTX := Lib.hid (List.take_succ_eq_append_getElem lx)
        have HTY := Lib.hid (List.take_succ_eq_append_getElem ly)
        have HXK := Lib.hid (List.getElem?_eq_getElem lx)
        have HYK := Lib.hid (List.getElem?_eq_getElem ly)
        have HLT := Lib.hid (Nat.succ_le_of_lt hlt)
        generalize xs[k] = x at d0 d1 HTX HXK
        generalize ys[k] = y at e0 e1 HTY HYK
        clear hc1 hc2 lx ly
        go_wp2
        by_cases hxy : x = y
        · have h0 : Atv ⟨b1, o1 + k * 2, none⟩ (.int .i64 x.1) wr.drew := Grew.atv (Grew.refl _).drw d0
          have h1 : Atv ⟨b1, o1 + k * 2 + 1, none⟩ (.int .i64 x.2) wr.drew := Grew.atv (Grew.refl _).drw d1
          have g0 : Atv ⟨b2, o2 + k * 2, none⟩ (.int .i64 y.1) wr.drew := Grew.atv (Grew.refl _).drw e0
          have g1 : Atv ⟨b2, o2 + k * 2 + 1, none⟩ (.int .i64 y.2) wr.drew := Grew.atv (Grew.refl _).drw e1
          refine wp_still [some 17, some 18, some 19, some 20, some 21, some 22, some 23, some 24, some 25] [false, false, false, false, false, false, false, false, false, false, false, false, false, false, false, false, false, true, true, true, true, true, true, true, true, true] [fun v _ => v = .slice (some ⟨b1, o1, none⟩) (n) (c), fun v _ => v = .int .i64 (((k : Nat) : Int)), fun v _ => v = .pointer (some ⟨b1, o1 + k * 2, none⟩), fun v _ => v = .agg #[.int .i64 (x.1), .int .i64 (x.2)], fun v _ => v = .slice (some ⟨b2, o2, none⟩) (n) (d), fun v _ => v = .int .i64 (((k : Nat) : Int)), fun v _ => v = .pointer (some ⟨b2, o2 + k * 2, none⟩), fun v _ => v = .agg #[.int .i64 (y.1), .int .i64 (y.2)], fun v _ => v = .bool (false)] (by kernel_rfl) (by kernel_rfl) rfl ⟨?_, ?_, ?_, ?_, ?_, ?_, ?_, ?_, ?_, trivial⟩ ?_
          · intro u w hR hd; exact runs_mv (ev rfl) ⟨rfl, rfl⟩
          · intro u w hR hd; exact runs_mv (ev rfl) ⟨rfl, rfl⟩
          · intro u w hR hd; exact rn_idx_22 (k) (ev (hd.1 rfl)) (ev (hd.2.1 rfl)) (by omega) ⟨rfl, rfl⟩
          · intro u w hR hd; exact rn_ld_52 (ev (hd.1 rfl)) (h0.kept hR) (h1.kept hR) ⟨rfl, rfl⟩
          · intro u w hR hd; exact runs_mv (ev rfl) ⟨rfl, rfl⟩
          · intro u w hR hd; exact runs_mv (ev rfl) ⟨rfl, rfl⟩
          · intro u w hR hd; exact rn_idx_22 (k) (ev (hd.1 rfl)) (ev (hd.2.1 rfl)) (by omega) ⟨rfl, rfl⟩
          · intro u w hR hd; exact rn_ld_52 (ev (hd.1 rfl)) (g0.kept hR) (g1.kept hR) ⟨rfl, rfl⟩
          · intro u w hR hd; exact rn_neq_52 (ev (hd.1 rfl)) (ev (hd.2.1 rfl)) ⟨rfl, (congrArg Value.bool (by rw [hxy]; simp))⟩
          · intro u h
            have he : u 25 = .bool false := h 8 (by decide)
            simp only [mixA, mixL, cond_true, cond_false]
            rw [he]
            clear h he h0 h1 g0 g1 d0 d1 e0 e1
            go_wp2
            go_roundg (n - (k + 1))
            case measure => have := HLT.out; omega
            case rel => exact ⟨k + 1, by go_num, HLT.out, rfl, Lib.hid (by rw [HTX.out, HTY.out, HT.out, hxy]), Lib.hid HG.out.drw⟩
        · have h0 : Atv ⟨b1, o1 + k * 2, none⟩ (.int .i64 x.1) wr.drew := Grew.atv (Grew.refl _).drw d0
          have h1 : Atv ⟨b1, o1 + k * 2 + 1, none⟩ (.int .i64 x.2) wr.drew := Grew.atv (Grew.refl _).drw d1
          have g0 : Atv ⟨b2, o2 + k * 2, none⟩ (.int .i64 y.1) wr.drew := Grew.atv (Grew.refl _).drw e0
          have g1 : Atv ⟨b2, o2 + k * 2 + 1, none⟩ (.int .i64 y.2) wr.drew := Grew.atv (Grew.refl _).drw e1
          refine wp_still [some 17, some 18, some 19, some 20, some 21, some 22, some 23, some 24, some 25] [false, false, false, false, false, false, false, false, false, false, false, false, false, false, false, false, false, true, true, true, true, true, true, true, true, true] [fun v _ => v = .slice (some ⟨b1, o1, none⟩) (n) (c), fun v _ => v = .int .i64 (((k : Nat) : Int)), fun v _ => v = .pointer (some ⟨b1, o1 + k * 2, none⟩), fun v _ => v = .agg #[.int .i64 (x.1), .int .i64 (x.2)], fun v _ => v = .slice (some ⟨b2, o2, none⟩) (n) (d), fun v _ => v = .int .i64 (((k : Nat) : Int)), fun v _ => v = .pointer (some ⟨b2, o2 + k * 2, none⟩), fun v _ => v = .agg #[.int .i64 (y.1), .int .i64 (y.2)], fun v _ => v = .bool (true)] (by kernel_rfl) (by kernel_rfl) rfl ⟨?_, ?_, ?_, ?_, ?_, ?_, ?_, ?_, ?_, trivial⟩ ?_
          · intro u w hR hd; exact runs_mv (ev rfl) ⟨rfl, rfl⟩
          · intro u w hR hd; exact runs_mv (ev rfl) ⟨rfl, rfl⟩
          · intro u w hR hd; exact rn_idx_22 (k) (ev (hd.1 rfl)) (ev (hd.2.1 rfl)) (by omega) ⟨rfl, rfl⟩
          · intro u w hR hd; exact rn_ld_52 (ev (hd.1 rfl)) (h0.kept hR) (h1.kept hR) ⟨rfl, rfl⟩
          · intro u w hR hd; exact runs_mv (ev rfl) ⟨rfl, rfl⟩
          · intro u w hR hd; exact runs_mv (ev rfl) ⟨rfl, rfl⟩
          · intro u w hR hd; exact rn_idx_22 (k) (ev (hd.1 rfl)) (ev (hd.2.1 rfl)) (by omega) ⟨rfl, rfl⟩
          · intro u w hR hd; exact rn_ld_52 (ev (hd.1 rfl)) (g0.kept hR) (g1.kept hR) ⟨rfl, rfl⟩
          · intro u w hR hd; exact rn_neq_52 (ev (hd.1 rfl)) (ev (hd.2.1 rfl)) ⟨rfl, (congrArg Value.bool (by by_cases e1 : x.1 = y.1 <;> by_cases e2 : x.2 = y.2 <;> first | exact absurd (Prod.ext e1 e2) hxy | simp [e1, e2]))⟩
          · intro u h
            have he : u 25 = .bool true := h 8 (by decide)
            simp only [mixA, mixL, cond_true, cond_false]
            rw [he]
            clear h he h0 h1 g0 g1 d0 d1 e0 e1
            go_wp2
            go_ret
            refine ⟨ret_bool (decide_eq_false fun he => hxy ?_).symm, HG.out.drw⟩
            have h1 := HXK.out
            rw [he, HYK.out] at h1
            exact (Option.some.inj h1).symm
      · obtain rfl : k = n := by omega
        go_wp2
        go_ret
        refine ⟨ret_bool (decide_eq_true ?_).symm, HG.out⟩
        have h1 := HT.out
        rwa [List.take_of_length_le (by rw [HN.out]; exact Nat.le_refl _), List.take_of_length_le (by rw [HM.out]; exact Nat.le_refl _)] at h1
  · have HN := Lib.hid (show decide (xs = ys) = false from decide_eq_false fun e => hne (by rw [← hn, ← hm, e]))
    have hne2 : ((n : Int) != (m : Int)) = true := by rw [bne_iff_ne]; omega
    clear h h' hn hm
    go_enter Tryd.func18, Tryd.ntmps18
    go_wp2
    go_ret
    exact ⟨ret_bool HN.out.symm, Grew.refl _⟩
theorem copied_any (p : Option Addr) (n c : Nat) (xs : List It) (w : World) (h : Rw 2 itc w p c xs) (hn : xs.length = n) (hl : n ≤ 100000) :
    Calls Tryd.prog 13 #[.slice p n c] w fun e w' => ∃ p' c', e = .returned (.slice p' n c') ∧ OwR w' w.heap.size 52 2 itc (.slice p' n c') xs ∧ Grew w w' := by
  subst hn
  have HX := Lib.hid h
  have HB0 := Lib.hid (Grew.refl w)
  clear h
  go_enter Tryd.func13, Tryd.ntmps13
  go_wp2_with (at_builtin; refine wpList_append_row encI rfl _ _ 22 rfl w.heap.size 52 (itv (0, 0)) 16 Tryd.underlying22 infoC rfl _ [] rfl (OwR.lit encI w [] 0 w.heap.size 52 _ rfl rfl (by omega) (Nat.le_refl _)) _ _ _ xs rfl rfl (HX.out.kept ((Grew.refl _).alloc _)) (by simp; omega) (by simp; omega) (by simp) ?_; intro p2 c2 zs2 w2 hz2 ho2 hb2 hc2; have HO2 := Lib.hid ho2; have HG2 := Lib.hid ((HB0.out.alloc _).below hb2); clear ho2 hb2 hc2)
  go_ret
  obtain rfl : zs2 = xs := hz2.out
  exact ⟨p2, c2, rfl, HO2.out, HG2.out⟩
end Go.Proofs.YtapgpdgbdmnkgaaDoor
