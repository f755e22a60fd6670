/-
  CONTRACTS OF LAYER 10's REFERENCE on lists of changes: changes, Same, Next, At, Valid.
-/
import Derived.Test.YtaehlpdnjfblbaaDoorSeRefOps
namespace Go.Proofs.YtaehlpdnjfblbaaDoor
open Go Go.RowKit Go.IntWalk
set_option linter.unusedSimpArgs false
set_option maxRecDepth 8000

theorem made1 (w : World) (S : Nat) (x : It) (e : TypeId) (cs : Array Value) (fr : Nat × Nat) (hS : w.heap.size = S) (hc : cs = (flatL itc [x]).toArray) : Rw 2 itc (w.alloc (.cells cs e fr)) (some ⟨S, 0, none⟩) 1 [x] := by
  subst hS
  exact Rw.made encI w [x] 1 e cs fr hc rfl (by omega)
set_option maxHeartbeats 2000000 in
theorem changes_any (p : Option Addr) (n c : Nat) (xs : List It) (w : World) (h : Rw 2 itc w p c xs) (hn : xs.length = n) (hl : n ≤ 140737488355328 / 32) :
    Calls Tryd.prog 13 #[.slice p n c] w fun e w' => ∃ p' c', e = .returned (.slice p' n c') ∧ OwR w' w.heap.size 37 2 itc (.slice p' n c') xs ∧ Grew w w' := by
  subst hn
  have HX := Lib.hid h
  have hcap := h.cap
  have hmax := h.max
  clear h
  go_enter Tryd.func13, Tryd.ntmps13
  go_wp2
  go_loopg [3, 8] xs.length (fun gg ov iv wr => ∃ (k : Nat) (p1 : Option Addr) (c1 : Nat), ov = .slice p1 k c1 ∧ iv = .int .i64 (k : Int) ∧ k ≤ xs.length ∧ gg = xs.length - k ∧ Hid (OwR wr w.heap.size 37 2 itc (.slice p1 k c1) (xs.take k)) ∧ Hid (Grew w wr))
  case atStart => exact ⟨0, none, 0, rfl, rfl, Nat.zero_le _, rfl, Lib.hid (OwR.nil _ _ _ _ _), Lib.hid (Grew.refl _)⟩
  case round =>
    obtain ⟨k, p1, c1, rfl, rfl, hk, rfl, HO, HG⟩ := hrel
    by_cases hlt : k < xs.length
    · obtain ⟨b', o', rfl, hcc⟩ := (HX.out.kept HG.out).rd.cells (by omega)
      have hx : xs[k]? = some xs[k] := by simp [hlt]
      have hc1 := hcc k xs[k] hx
      have hlb : b' < wr.heap.size := World.block_lt_of_cell? _ _ (hc1 0 _ rfl)
      have HLT := Lib.hid (Nat.succ_le_of_lt hlt)
      have HTK := Lib.hid (List.take_succ_eq_append_getElem hlt)
      generalize xs[k] = a at hc1 hx HTK
      have d0 : wr.cell? ⟨b', o' + k * 2, none⟩ = some (.int .i64 a.1) := by simpa using hc1 0 _ rfl
      have d1 : wr.cell? ⟨b', o' + k * 2 + 1, none⟩ = some (.int .i16 a.2) := hc1 1 _ rfl
      have HXK := Lib.hid hx
      clear hcc hc1 hx
      go_wp2_with (at_builtin; refine wpList_append_row encI rfl _ _ 28 rfl w.heap.size 37 (itv (0, 0)) 16 Tryd.underlying28 infoR rfl (.slice p1 k c1) (xs.take k) rfl (OwR.kept HO.out (((Grew.refl _).alloc _).alloc _)) _ _ _ [a] rfl rfl (made1 _ _ _ _ _ _ (by simp) rfl) (by simp; omega) (by simp; omega) (by have := HG.out.size; simp; omega) ?_; intro p2 c2 zs2 w3 hz2 ho2 hb2 hc2; have HO2 := Lib.hid ho2; have HG2 := Lib.hid (((HG.out.alloc _).alloc _).below hb2); clear ho2 hb2 hc2)
      go_roundg (xs.length - (k + 1))
      case measure => have := HLT.out; omega
      case rel =>
        have hzl : zs2.length = k + 1 := by rw [hz2.out]; simp; have := HLT.out; omega
        rw [hzl] at HO2
        exact ⟨k + 1, p2, c2, by rw [hzl], by go_num, HLT.out, rfl, Lib.hid (by rw [HTK.out, ← hz2.out]; exact HO2.out), HG2⟩
    · obtain rfl : k = xs.length := by omega
      go_wp2
      go_ret
      rw [List.take_length] at HO
      exact ⟨p1, c1, rfl, HO.out, HG.out⟩
theorem Grew.atv {q : Addr} {v : Value} {w w' : World} (hg : Grew w w') (h : Atv q v w) : Atv q v w' := h.grew hg
set_option maxHeartbeats 2000000 in
theorem same_any (p : Option Addr) (n c : Nat) (xs : List It) (q : Option Addr) (m d : Nat) (ys : List It) (w : World) (h : Rw 2 itc w p c xs) (hn : xs.length = n) (h' : Rw 2 itc w q d ys) (hm : ys.length = m) :
    Calls Tryd.prog 12 #[.slice p n c, .slice q m d] w fun e w' => e = .returned (.bool (decide (xs = ys))) ∧ Grew w w' := by
  by_cases hne : n = m
  · subst hne
    have HX := Lib.hid h
    have HY := Lib.hid h'
    have hcap := h.cap
    have hmax := h.max
    have HN := Lib.hid hn
    have HM := Lib.hid hm
    rw [hn] at hcap
    clear h h' hn hm
    go_enter Tryd.func12, Tryd.ntmps12
    go_wp2
    go_loopg [13] n (fun gg iv wr => ∃ (k : Nat), iv = .int .i64 (k : Int) ∧ k ≤ n ∧ gg = n - k ∧ Hid (xs.take k = ys.take k) ∧ Hid (Grew w wr))
    case atStart => exact ⟨0, rfl, Nat.zero_le _, rfl, Lib.hid rfl, Lib.hid (Grew.refl _)⟩
    case round =>
      obtain ⟨k, rfl, hk, rfl, HT, HG⟩ := hrel
      by_cases hlt : k < n
      · have lx : k < xs.length := by rw [HN.out]; exact hlt
        have ly : k < ys.length := by rw [HM.out]; exact hlt
        obtain ⟨b1, o1, rfl, hc1⟩ := (HX.out.kept HG.out).rd.cells (by omega)
        obtain ⟨b2, o2, rfl, hc2⟩ := (HY.out.kept HG.out).rd.cells (by omega)
        have d0 : Atv ⟨b1, o1 + k * 2, none⟩ (.int .i64 xs[k].1) wr := by have := hc1 k xs[k] (by simp [lx]) 0 _ rfl; rwa [Nat.add_zero] at this
        have d1 : Atv ⟨b1, o1 + k * 2 + 1, none⟩ (.int .i16 xs[k].2) wr := hc1 k xs[k] (by simp [lx]) 1 _ rfl
        have e0 : Atv ⟨b2, o2 + k * 2, none⟩ (.int .i64 ys[k].1) wr := by have := hc2 k ys[k] (by simp [ly]) 0 _ rfl; rwa [Nat.add_zero] at this
        have e1 : Atv ⟨b2, o2 + k * 2 + 1, none⟩ (.int .i16 ys[k].2) wr := hc2 k ys[k] (by simp [ly]) 1 _ rfl
        have HTX := Lib.hid (List.take_succ_eq_append_getElem lx)
        have HTY := Lib.hid (List.take_succ_eq_append_getElem ly)
        have HXK := Lib.hid (List.getElem?_eq_getElem lx)
        have HYK := Lib.hid (List.getElem?_eq_getElem ly)
        have HLT := Lib.hid (Nat.succ_le_of_lt hlt)
        generalize xs[k] = x at d0 d1 HTX HXK
        generalize ys[k] = y at e0 e1 HTY HYK
        clear hc1 hc2 lx ly
        go_wp2
        by_cases hxy : x = y
        · have h0 : Atv ⟨b1, o1 + k * 2, none⟩ (.int .i64 x.1) wr.drew := Grew.atv (Grew.refl _).drw d0
          have h1 : Atv ⟨b1, o1 + k * 2 + 1, none⟩ (.int .i16 x.2) wr.drew := Grew.atv (Grew.refl _).drw d1
          have g0 : Atv ⟨b2, o2 + k * 2, none⟩ (.int .i64 y.1) wr.drew := Grew.atv (Grew.refl _).drw e0
          have g1 : Atv ⟨b2, o2 + k * 2 + 1, none⟩ (.int .i16 y.2) wr.drew := Grew.atv (Grew.refl _).drw e1
          refine wp_still [some 16, some 17, some 18, some 19, some 20, some 21, some 22, some 23, some 24] [false, false, false, false, false, false, false, false, false, false, false, false, false, false, false, false, true, true, true, true, true, true, true, true, true, false] [fun v _ => v = .slice (some ⟨b1, o1, none⟩) (n) (c), fun v _ => v = .int .i64 (((k : Nat) : Int)), fun v _ => v = .pointer (some ⟨b1, o1 + k * 2, none⟩), fun v _ => v = .agg #[.int .i64 (x.1), .int .i16 (x.2)], fun v _ => v = .slice (some ⟨b2, o2, none⟩) (n) (d), fun v _ => v = .int .i64 (((k : Nat) : Int)), fun v _ => v = .pointer (some ⟨b2, o2 + k * 2, none⟩), fun v _ => v = .agg #[.int .i64 (y.1), .int .i16 (y.2)], fun v _ => v = .bool (false)] (by kernel_rfl) (by kernel_rfl) rfl ⟨?_, ?_, ?_, ?_, ?_, ?_, ?_, ?_, ?_, trivial⟩ ?_
          · intro u w hR hd; exact runs_mv (ev rfl) ⟨rfl, rfl⟩
          · intro u w hR hd; exact runs_mv (ev rfl) ⟨rfl, rfl⟩
          · intro u w hR hd; exact rn_idx_28 (k) (ev (hd.1 rfl)) (ev (hd.2.1 rfl)) (by omega) ⟨rfl, rfl⟩
          · intro u w hR hd; exact rn_ld_37 (ev (hd.1 rfl)) (h0.kept hR) (h1.kept hR) ⟨rfl, rfl⟩
          · intro u w hR hd; exact runs_mv (ev rfl) ⟨rfl, rfl⟩
          · intro u w hR hd; exact runs_mv (ev rfl) ⟨rfl, rfl⟩
          · intro u w hR hd; exact rn_idx_28 (k) (ev (hd.1 rfl)) (ev (hd.2.1 rfl)) (by omega) ⟨rfl, rfl⟩
          · intro u w hR hd; exact rn_ld_37 (ev (hd.1 rfl)) (g0.kept hR) (g1.kept hR) ⟨rfl, rfl⟩
          · intro u w hR hd; exact rn_neq_37 (ev (hd.1 rfl)) (ev (hd.2.1 rfl)) ⟨rfl, (congrArg Value.bool (by rw [hxy]; simp))⟩
          · intro u h
            have he : u 24 = .bool false := h 8 (by decide)
            simp only [mixA, mixL, cond_true, cond_false]
            rw [he]
            clear h he h0 h1 g0 g1 d0 d1 e0 e1
            go_wp2
            go_roundg (n - (k + 1))
            case measure => have := HLT.out; omega
            case rel => exact ⟨k + 1, by go_num, HLT.out, rfl, Lib.hid (by rw [HTX.out, HTY.out, HT.out, hxy]), Lib.hid HG.out.drw⟩
        · have h0 : Atv ⟨b1, o1 + k * 2, none⟩ (.int .i64 x.1) wr.drew := Grew.atv (Grew.refl _).drw d0
          have h1 : Atv ⟨b1, o1 + k * 2 + 1, none⟩ (.int .i16 x.2) wr.drew := Grew.atv (Grew.refl _).drw d1
          have g0 : Atv ⟨b2, o2 + k * 2, none⟩ (.int .i64 y.1) wr.drew := Grew.atv (Grew.refl _).drw e0
          have g1 : Atv ⟨b2, o2 + k * 2 + 1, none⟩ (.int .i16 y.2) wr.drew := Grew.atv (Grew.refl _).drw e1
          refine wp_still [some 16, some 17, some 18, some 19, some 20, some 21, some 22, some 23, some 24] [false, false, false, false, false, false, false, false, false, false, false, false, false, false, false, false, true, true, true, true, true, true, true, true, true, false] [fun v _ => v = .slice (some ⟨b1, o1, none⟩) (n) (c), fun v _ => v = .int .i64 (((k : Nat) : Int)), fun v _ => v = .pointer (some ⟨b1, o1 + k * 2, none⟩), fun v _ => v = .agg #[.int .i64 (x.1), .int .i16 (x.2)], fun v _ => v = .slice (some ⟨b2, o2, none⟩) (n) (d), fun v _ => v = .int .i64 (((k : Nat) : Int)), fun v _ => v = .pointer (some ⟨b2, o2 + k * 2, none⟩), fun v _ => v = .agg #[.int .i64 (y.1), .int .i16 (y.2)], fun v _ => v = .bool (true)] (by kernel_rfl) (by kernel_rfl) rfl ⟨?_, ?_, ?_, ?_, ?_, ?_, ?_, ?_, ?_, trivial⟩ ?_
          · intro u w hR hd; exact runs_mv (ev rfl) ⟨rfl, rfl⟩
          · intro u w hR hd; exact runs_mv (ev rfl) ⟨rfl, rfl⟩
          · intro u w hR hd; exact rn_idx_28 (k) (ev (hd.1 rfl)) (ev (hd.2.1 rfl)) (by omega) ⟨rfl, rfl⟩
          · intro u w hR hd; exact rn_ld_37 (ev (hd.1 rfl)) (h0.kept hR) (h1.kept hR) ⟨rfl, rfl⟩
          · intro u w hR hd; exact runs_mv (ev rfl) ⟨rfl, rfl⟩
          · intro u w hR hd; exact runs_mv (ev rfl) ⟨rfl, rfl⟩
          · intro u w hR hd; exact rn_idx_28 (k) (ev (hd.1 rfl)) (ev (hd.2.1 rfl)) (by omega) ⟨rfl, rfl⟩
          · intro u w hR hd; exact rn_ld_37 (ev (hd.1 rfl)) (g0.kept hR) (g1.kept hR) ⟨rfl, rfl⟩
          · intro u w hR hd; exact rn_neq_37 (ev (hd.1 rfl)) (ev (hd.2.1 rfl)) ⟨rfl, (congrArg Value.bool (by by_cases e1 : x.1 = y.1 <;> by_cases e2 : x.2 = y.2 <;> first | exact absurd (Prod.ext e1 e2) hxy | simp [e1, e2]))⟩
          · intro u h
            have he : u 24 = .bool true := h 8 (by decide)
            simp only [mixA, mixL, cond_true, cond_false]
            rw [he]
            clear h he h0 h1 g0 g1 d0 d1 e0 e1
            go_wp2
            go_ret
            refine ⟨ret_bool (decide_eq_false fun he => hxy ?_).symm, HG.out.drw⟩
            have h1 := HXK.out
            rw [he, HYK.out] at h1
            exact (Option.some.inj h1).symm
      · obtain rfl : k = n := by omega
        go_wp2
        go_ret
        refine ⟨ret_bool (decide_eq_true ?_).symm, HG.out⟩
        have h1 := HT.out
        rwa [List.take_of_length_le (by rw [HN.out]; exact Nat.le_refl _), List.take_of_length_le (by rw [HM.out]; exact Nat.le_refl _)] at h1
  · have HN := Lib.hid (show decide (xs = ys) = false from decide_eq_false fun e => hne (by rw [← hn, ← hm, e]))
    have hne2 : ((n : Int) != (m : Int)) = true := by rw [bne_iff_ne]; omega
    clear h h' hn hm
    go_enter Tryd.func12, Tryd.ntmps12
    go_wp2
    go_ret
    exact ⟨ret_bool HN.out.symm, Grew.refl _⟩
set_option maxHeartbeats 2000000 in
theorem rnext_any (p : Option Addr) (n c : Nat) (xs : List It) (t : Int) (w : World) (h : Rw 2 itc w p c xs) (hn : xs.length = n) (ha : asc (-1) xs = true) :
    Calls Tryd.prog 16 #[.slice p n c, .int .i64 t] w fun e w' => e = .returned (.tuple #[itv (nxt xs t).1, .bool (nxt xs t).2]) ∧ Grew w w' := by
  have HA := Lib.hid ha
  clear ha
  subst hn
  have HX := Lib.hid h
  have hcap := h.cap
  have hmax := h.max
  clear h
  go_enter Tryd.func16, Tryd.ntmps16
  go_wp2
  obtain ⟨S, hS⟩ : ∃ S, S = w.heap.size := ⟨_, rfl⟩
  rw [← hS]
  refine wp_at9 (fun W => Blk S (itc (0, 0)) 37 W ∧ Grew w W) ⟨by rw [hS]; exact Blk.new w _ _, (Grew.refl _).alloc _⟩ ?_
  intro W hW
  have HS := Lib.hid hW
  have HSL := Lib.hid (Nat.le_of_eq hS.symm)
  clear hW hS
  go_loopg [10] xs.length (fun gg iv wr => ∃ (k : Nat), iv = .int .i64 (k : Int) ∧ k ≤ xs.length ∧ gg = xs.length - k ∧ Hid (∀ i x, i < k → xs[i]? = some x → x.1 ≤ t) ∧ Hid (Blk S (itc (0, 0)) 37 wr) ∧ Hid (Grew w wr))
  case atStart => exact ⟨0, rfl, Nat.zero_le _, rfl, Lib.hid (fun i x hi => absurd hi (Nat.not_lt_zero _)), Lib.hid HS.out.1, Lib.hid HS.out.2⟩
  clear HS
  case round =>
    obtain ⟨k, rfl, hk, rfl, HB, HK, HG⟩ := hrel
    have b0 := HK.out.cell 0
    have b1 := HK.out.cell 1
    have bf := HK.out.free
    have bl := HK.out.lt
    simp only [List.getElem?_cons_zero, List.getElem?_cons_succ] at b0 b1
    by_cases hlt : k < xs.length
    · obtain ⟨b', o', rfl, hcc⟩ := (HX.out.kept HG.out).rd.cells (by omega)
      have hx : xs[k]? = some xs[k] := by simp [hlt]
      have hc1 := hcc k xs[k] hx
      have hlb : b' < wr.heap.size := World.block_lt_of_cell? _ _ (hc1 0 _ rfl)
      have HLT := Lib.hid (Nat.succ_le_of_lt hlt)
      have HTK := Lib.hid (List.take_succ_eq_append_getElem hlt)
      generalize xs[k] = a at hc1 hx HTK
      have d0 : wr.cell? ⟨b', o' + k * 2, none⟩ = some (.int .i64 a.1) := by simpa using hc1 0 _ rfl
      have d1 : wr.cell? ⟨b', o' + k * 2 + 1, none⟩ = some (.int .i16 a.2) := hc1 1 _ rfl
      have HXK := Lib.hid hx
      clear hcc hc1 hx
      by_cases hq : t < a.1
      · have HV := Lib.hid (nxt_first HA.out HB.out HXK.out hq)
        go_wp2
        refine rn_ret_c37_t Tryd.results16 (S0 := S) (v0_0 := .int .i64 a.1) (v0_1 := .int .i16 a.2) (v1 := .bool true) rfl (by go_simp) (by go_simp) rfl ⟨?_, ?_⟩
        · rw [HV.out]
        · repeat (first | with_reducible exact HG.out | with_reducible refine Grew.alloc ?_ _ | with_reducible refine Grew.drw ?_ | with_reducible refine Grew.sc ?_ HSL.out _ _ | with_reducible refine Grew.sc ?_ (by have := HG.out.size; omega) _ _)
      · go_wp2
        go_roundg (xs.length - (k + 1))
        case measure => have := HLT.out; omega
        case rel => exact ⟨k + 1, by go_num, HLT.out, rfl, Lib.hid (fun i x hi hx => by
          rcases Nat.eq_or_lt_of_le (Nat.le_of_lt_succ hi) with rfl | hi
          · have := HXK.out
            rw [this] at hx
            rw [← Option.some.inj hx]; omega
          · exact HB.out i x hi hx), Lib.hid (HK.out.grew ((Grew.refl _).alloc _)), Lib.hid (HG.out.alloc _)⟩
    · obtain rfl : k = xs.length := by omega
      have HV := Lib.hid (nxt_none HB.out)
      go_wp2
      refine rn_ret_c37_t Tryd.results16 (S0 := S) (v0_0 := .int .i64 0) (v0_1 := .int .i16 0) (v1 := .bool false) rfl (by go_simp) (by go_simp) rfl ⟨?_, ?_⟩
      · rw [HV.out]
      · exact (HG.out.sc HSL.out _ _).sc HSL.out _ _
set_option maxHeartbeats 2000000 in
theorem rat_any (p : Option Addr) (n c : Nat) (xs : List It) (t : Int) (w : World) (h : Rw 2 itc w p c xs) (hn : xs.length = n) (ha : asc (-1) xs = true) :
    Calls Tryd.prog 18 #[.slice p n c, .int .i64 t] w fun e w' => e = .returned (.int .i16 (valAt xs t)) ∧ Grew w w' := by
  have HA := Lib.hid (rval_val ha t)
  clear ha
  subst hn
  have HX := Lib.hid h
  have hcap := h.cap
  have hmax := h.max
  clear h
  go_enter Tryd.func18, Tryd.ntmps18
  go_wp2
  go_loopg [5, 10] xs.length (fun gg vv iv wr => ∃ (k : Nat) (v : Int), vv = .int .i16 v ∧ iv = .int .i64 (k : Int) ∧ k ≤ xs.length ∧ gg = xs.length - k ∧ Hid (v = rval 0 t (xs.take k)) ∧ Hid (Grew w wr))
  case atStart => exact ⟨0, 0, rfl, rfl, Nat.zero_le _, rfl, Lib.hid rfl, Lib.hid (Grew.refl _)⟩
  case round =>
    obtain ⟨k, v, rfl, rfl, hk, rfl, HV, HG⟩ := hrel
    by_cases hlt : k < xs.length
    · obtain ⟨b', o', rfl, hcc⟩ := (HX.out.kept HG.out).rd.cells (by omega)
      have hx : xs[k]? = some xs[k] := by simp [hlt]
      have hc1 := hcc k xs[k] hx
      have hlb : b' < wr.heap.size := World.block_lt_of_cell? _ _ (hc1 0 _ rfl)
      have HLT := Lib.hid (Nat.succ_le_of_lt hlt)
      have HTK := Lib.hid (List.take_succ_eq_append_getElem hlt)
      generalize xs[k] = a at hc1 hx HTK
      have d0 : wr.cell? ⟨b', o' + k * 2, none⟩ = some (.int .i64 a.1) := by simpa using hc1 0 _ rfl
      have d1 : wr.cell? ⟨b', o' + k * 2 + 1, none⟩ = some (.int .i16 a.2) := hc1 1 _ rfl
      have HXK := Lib.hid hx
      clear hcc hc1 hx
      by_cases hq : a.1 ≤ t
      · have HQ := Lib.hid hq
        go_wp2
        go_roundg (xs.length - (k + 1))
        case measure => have := HLT.out; omega
        case rel => exact ⟨k + 1, a.2, rfl, by go_num, HLT.out, rfl, Lib.hid (by rw [HTK.out, rval_snoc, if_pos HQ.out]), Lib.hid (HG.out.alloc _)⟩
      · have HQ := Lib.hid (show t < a.1 by omega)
        go_wp2
        go_roundg (xs.length - (k + 1))
        case measure => have := HLT.out; omega
        case rel => exact ⟨k + 1, v, rfl, by go_num, HLT.out, rfl, Lib.hid (by rw [HTK.out, rval_snoc, if_neg (by have := HQ.out; omega)]; exact HV.out), Lib.hid (HG.out.alloc _)⟩
    · obtain rfl : k = xs.length := by omega
      rw [List.take_length] at HV
      go_wp2
      go_ret
      exact ⟨ret_i16 (HV.out.trans HA.out), HG.out⟩
theorem asc_stop {xs : List It} {k : Nat} {x : It} (h : asc (-1) (xs.take k) = true) (hk : xs.take (k + 1) = xs.take k ++ [x]) (ho : okAdd (xs.take k) x = false) : asc (-1) xs = false := by
  cases hA : asc (-1) xs with
  | false => rfl
  | true =>
    have h1 : asc (-1) (xs.take (k + 1)) = true := asc_left (ys := xs.drop (k + 1)) (by rw [List.take_append_drop]; exact hA)
    rw [hk, asc_add _ _ h, ho] at h1
    cases h1
set_option maxHeartbeats 4000000 in
theorem rvalid_any (p : Option Addr) (n c : Nat) (xs : List It) (w : World) (h : Rw 2 itc w p c xs) (hn : xs.length = n) :
    Calls Tryd.prog 24 #[.slice p n c] w fun e w' => e = .returned (.bool (asc (-1) xs)) ∧ Grew w w' := by
  have HX := Lib.hid h
  have cap := c
  have hcap := h.cap
  have hmax := h.max
  rw [hn] at hcap
  have HNN := Lib.hid hn
  clear h hn cap
  go_enter Tryd.func24, Tryd.ntmps24
  go_wp2
  go_loopg [7] n (fun gg iv wr => ∃ (k : Nat), iv = .int .i64 (k : Int) ∧ k ≤ n ∧ gg = n - k ∧ Hid (asc (-1) (xs.take k) = true) ∧ Hid (Grew w wr))
  case atStart => exact ⟨0, rfl, Nat.zero_le _, rfl, Lib.hid rfl, Lib.hid (Grew.refl _)⟩
  case round =>
    obtain ⟨k, rfl, hk, rfl, HA, HG⟩ := hrel
    by_cases hlt : k < n
    · have lx : k < xs.length := by rw [HNN.out]; exact hlt
      obtain ⟨b, o, rfl, hcc⟩ := (HX.out.kept HG.out).rd.cells (by omega)
      have hx : xs[k]? = some xs[k] := by simp [lx]
      have hc1 := hcc k xs[k] hx
      have hlb : b < wr.heap.size := World.block_lt_of_cell? _ _ (hc1 0 _ rfl)
      have HLT := Lib.hid (Nat.succ_le_of_lt hlt)
      have HTK := Lib.hid (List.take_succ_eq_append_getElem lx)
      generalize xs[k] = x at hc1 hx HTK
      have d0 : wr.cell? ⟨b, o + k * 2, none⟩ = some (.int .i64 x.1) := by simpa using hc1 0 _ rfl
      have d1 : wr.cell? ⟨b, o + k * 2 + 1, none⟩ = some (.int .i16 x.2) := hc1 1 _ rfl
      have HCC := Lib.hid hcc
      generalize hcc0 : c = cap at *
      clear hcc hc1 hx hcc0
      have hnx : ∀ m z, k = m + 1 → xs[m]? = some z → lastT (-1) (xs.take k) = z.1 := fun m z hm hz => by rw [hm]; exact lastT_at _ _ _ _ hz
      by_cases q1 : x.1 < 0
      · have HN := Lib.hid (asc_stop HA.out HTK.out (decide_eq_false (fun hh => by have := (lastT_bd HA.out (by decide)).1; omega)))
        clear hnx
        go_wp2
        generalize hV : World.alloc _ _ = W1
        have hB : Blk wr.heap.size (itc x) 37 W1 := by subst hV; exact Blk.new wr _ _
        have hG : Grew wr W1 := by subst hV; exact (Grew.refl _).alloc _
        generalize wr.heap.size = S at hB
        clear hV d0 d1
        have c0 : Atv ⟨S, 0, none⟩ (.int .i64 x.1) W1.drew := (hB.grew (Grew.refl _).drw).atv 0 rfl
        have c1 : Atv ⟨S, 1, none⟩ (.int .i16 x.2) W1.drew := (hB.grew (Grew.refl _).drw).atv 1 rfl
        refine wp_still [some 12, some 13, some 14, some 15, some 16, some 17, some 18, some 19, some 20, some 21, some 22, some 23, some 24, some 25, some 26, some 27, some 28, some 29, some 30, some 31, some 32, some 33, some 34] [false, false, false, false, false, false, false, false, false, false, false, false, true, true, true, true, true, true, true, true, true, true, true, true, true, true, true, true, true, true, true, true, true, true, true, false] [fun v _ => v = .pointer (some ⟨S, 0, none⟩), fun v _ => v = .int .i64 (x.1), fun v _ => v = .bool (true), fun v _ => v = .bool (true), fun v _ => v = undef, fun v _ => v = undef, fun v _ => v = undef, fun v _ => v = .bool (true), fun v _ => v = .bool (true), fun v _ => v = undef, fun v _ => v = undef, fun v _ => v = undef, fun v _ => v = undef, fun v _ => v = undef, fun v _ => v = undef, fun v _ => v = undef, fun v _ => v = undef, fun v _ => v = undef, fun v _ => v = undef, fun v _ => v = undef, fun v _ => v = undef, fun v _ => v = undef, fun v _ => v = .bool (true)] (by kernel_rfl) (by kernel_rfl) rfl ⟨?_, ?_, ?_, ?_, ?_, ?_, ?_, ?_, ?_, ?_, ?_, ?_, ?_, ?_, ?_, ?_, ?_, ?_, ?_, ?_, ?_, ?_, ?_, trivial⟩ ?_
        · intro u w hR hd; exact rn_fld_37_0 (ev rfl) ⟨rfl, rfl⟩
        · intro u w hR hd; exact rn_ld_2 (ev (hd.1 rfl)) (c0.kept hR) ⟨rfl, rfl⟩
        · intro u w hR hd; exact rn_lss_2 (ev (hd.1 rfl)) rfl ⟨rfl, (congrArg Value.bool (decide_eq_true (by omega)))⟩
        · intro u w hR hd; exact runs_mv (ev (hd.1 rfl)) ⟨rfl, rfl⟩
        · intro u w hR hd; exact ⟨fun hg => absurd ((hd.1 rfl).symm.trans hg) (fun h => by first | cases h | (simp [undef] at h)), fun _ => rfl⟩
        · intro u w hR hd; exact ⟨fun hg => absurd ((hd.2.1 rfl).symm.trans hg) (fun h => by first | cases h | (simp [undef] at h)), fun _ => rfl⟩
        · intro u w hR hd; exact ⟨fun hg => absurd ((hd.2.1 rfl).symm.trans hg) (fun h => by first | cases h | (simp [undef] at h)), fun _ => rfl⟩
        · intro u w hR hd; exact runs_orT (ev (hd.1 rfl)) ⟨rfl, rfl⟩
        · intro u w hR hd; exact runs_mv (ev (hd.1 rfl)) ⟨rfl, rfl⟩
        · intro u w hR hd; exact ⟨fun hg => absurd ((hd.1 rfl).symm.trans hg) (fun h => by first | cases h | (simp [undef] at h)), fun _ => rfl⟩
        · intro u w hR hd; exact ⟨fun hg => absurd ((hd.2.1 rfl).symm.trans hg) (fun h => by first | cases h | (simp [undef] at h)), fun _ => rfl⟩
        · intro u w hR hd; exact ⟨fun hg => absurd ((hd.2.1 rfl).symm.trans hg) (fun h => by first | cases h | (simp [undef] at h)), fun _ => rfl⟩
        · intro u w hR hd; exact ⟨fun hg => absurd ((hd.1 rfl).symm.trans hg) (fun h => by first | cases h | (simp [undef] at h)), fun _ => rfl⟩
        · intro u w hR hd; exact ⟨fun hg => absurd ((hd.2.1 rfl).symm.trans hg) (fun h => by first | cases h | (simp [undef] at h)), fun _ => rfl⟩
        · intro u w hR hd; exact ⟨fun hg => absurd ((hd.1 rfl).symm.trans hg) (fun h => by first | cases h | (simp [undef] at h)), fun _ => rfl⟩
        · intro u w hR hd; exact ⟨fun hg => absurd ((hd.1 rfl).symm.trans hg) (fun h => by first | cases h | (simp [undef] at h)), fun _ => rfl⟩
        · intro u w hR hd; exact ⟨fun hg => absurd ((hd.2.1 rfl).symm.trans hg) (fun h => by first | cases h | (simp [undef] at h)), fun _ => rfl⟩
        · intro u w hR hd; exact ⟨fun hg => absurd ((hd.2.2.1 rfl).symm.trans hg) (fun h => by first | cases h | (simp [undef] at h)), fun _ => rfl⟩
        · intro u w hR hd; exact ⟨fun hg => absurd ((hd.2.1 rfl).symm.trans hg) (fun h => by first | cases h | (simp [undef] at h)), fun _ => rfl⟩
        · intro u w hR hd; exact ⟨fun hg => absurd ((hd.2.1 rfl).symm.trans hg) (fun h => by first | cases h | (simp [undef] at h)), fun _ => rfl⟩
        · intro u w hR hd; exact ⟨fun hg => absurd ((hd.2.2.1 rfl).symm.trans hg) (fun h => by first | cases h | (simp [undef] at h)), fun _ => rfl⟩
        · intro u w hR hd; exact ⟨fun hg => absurd ((hd.2.2.1 rfl).symm.trans hg) (fun h => by first | cases h | (simp [undef] at h)), fun _ => rfl⟩
        · intro u w hR hd; exact runs_orT (ev (hd.1 rfl)) ⟨rfl, rfl⟩
        · intro u h
          have he : u 34 = .bool true := h 22 (by decide)
          simp only [mixA, mixL, cond_true, cond_false]
          rw [he]
          clear h he c0 c1
          go_wp2
          go_ret
          exact ⟨ret_bool HN.out.symm, (HG.out.trans hG).drw⟩
      · by_cases q2 : 1099511627776 < x.1
        · have HN := Lib.hid (asc_stop HA.out HTK.out (decide_eq_false (fun hh => by omega)))
          clear hnx
          go_wp2
          generalize hV : World.alloc _ _ = W1
          have hB : Blk wr.heap.size (itc x) 37 W1 := by subst hV; exact Blk.new wr _ _
          have hG : Grew wr W1 := by subst hV; exact (Grew.refl _).alloc _
          generalize wr.heap.size = S at hB
          clear hV d0 d1
          have c0 : Atv ⟨S, 0, none⟩ (.int .i64 x.1) W1.drew := (hB.grew (Grew.refl _).drw).atv 0 rfl
          have c1 : Atv ⟨S, 1, none⟩ (.int .i16 x.2) W1.drew := (hB.grew (Grew.refl _).drw).atv 1 rfl
          refine wp_still [some 12, some 13, some 14, some 15, some 16, some 17, some 18, some 19, some 20, some 21, some 22, some 23, some 24, some 25, some 26, some 27, some 28, some 29, some 30, some 31, some 32, some 33, some 34] [false, false, false, false, false, false, false, false, false, false, false, false, true, true, true, true, true, true, true, true, true, true, true, true, true, true, true, true, true, true, true, true, true, true, true, false] [fun v _ => v = .pointer (some ⟨S, 0, none⟩), fun v _ => v = .int .i64 (x.1), fun v _ => v = .bool (false), fun v _ => v = .bool (false), fun v _ => v = .pointer (some ⟨S, 0, none⟩), fun v _ => v = .int .i64 (x.1), fun v _ => v = .bool (true), fun v _ => v = .bool (true), fun v _ => v = .bool (true), fun v _ => v = undef, fun v _ => v = undef, fun v _ => v = undef, fun v _ => v = undef, fun v _ => v = undef, fun v _ => v = undef, fun v _ => v = undef, fun v _ => v = undef, fun v _ => v = undef, fun v _ => v = undef, fun v _ => v = undef, fun v _ => v = undef, fun v _ => v = undef, fun v _ => v = .bool (true)] (by kernel_rfl) (by kernel_rfl) rfl ⟨?_, ?_, ?_, ?_, ?_, ?_, ?_, ?_, ?_, ?_, ?_, ?_, ?_, ?_, ?_, ?_, ?_, ?_, ?_, ?_, ?_, ?_, ?_, trivial⟩ ?_
          · intro u w hR hd; exact rn_fld_37_0 (ev rfl) ⟨rfl, rfl⟩
          · intro u w hR hd; exact rn_ld_2 (ev (hd.1 rfl)) (c0.kept hR) ⟨rfl, rfl⟩
          · intro u w hR hd; exact rn_lss_2 (ev (hd.1 rfl)) rfl ⟨rfl, (congrArg Value.bool (decide_eq_false (by omega)))⟩
          · intro u w hR hd; exact runs_mv (ev (hd.1 rfl)) ⟨rfl, rfl⟩
          · intro u w hR hd; exact ⟨fun _ => rn_fld_37_0 (ev rfl) ⟨rfl, rfl⟩, fun hn => absurd (hd.1 rfl) hn⟩
          · intro u w hR hd; exact ⟨fun _ => rn_ld_2 (ev (hd.1 rfl)) (c0.kept hR) ⟨rfl, rfl⟩, fun hn => absurd (hd.2.1 rfl) hn⟩
          · intro u w hR hd; exact ⟨fun _ => rn_gtr_2 (ev (hd.1 rfl)) rfl ⟨rfl, (congrArg Value.bool (decide_eq_true (by omega)))⟩, fun hn => absurd (hd.2.1 rfl) hn⟩
          · intro u w hR hd; exact runs_or2 (ev (hd.1 rfl)) (fun hb => ev ((hd.2.1 rfl))) ⟨rfl, rfl⟩
          · intro u w hR hd; exact runs_mv (ev (hd.1 rfl)) ⟨rfl, rfl⟩
          · intro u w hR hd; exact ⟨fun hg => absurd ((hd.1 rfl).symm.trans hg) (fun h => by first | cases h | (simp [undef] at h)), fun _ => rfl⟩
          · intro u w hR hd; exact ⟨fun hg => absurd ((hd.2.1 rfl).symm.trans hg) (fun h => by first | cases h | (simp [undef] at h)), fun _ => rfl⟩
          · intro u w hR hd; exact ⟨fun hg => absurd ((hd.2.1 rfl).symm.trans hg) (fun h => by first | cases h | (simp [undef] at h)), fun _ => rfl⟩
          · intro u w hR hd; exact ⟨fun hg => absurd ((hd.1 rfl).symm.trans hg) (fun h => by first | cases h | (simp [undef] at h)), fun _ => rfl⟩
          · intro u w hR hd; exact ⟨fun hg => absurd ((hd.2.1 rfl).symm.trans hg) (fun h => by first | cases h | (simp [undef] at h)), fun _ => rfl⟩
          · intro u w hR hd; exact ⟨fun hg => absurd ((hd.1 rfl).symm.trans hg) (fun h => by first | cases h | (simp [undef] at h)), fun _ => rfl⟩
          · intro u w hR hd; exact ⟨fun hg => absurd ((hd.1 rfl).symm.trans hg) (fun h => by first | cases h | (simp [undef] at h)), fun _ => rfl⟩
          · intro u w hR hd; exact ⟨fun hg => absurd ((hd.2.1 rfl).symm.trans hg) (fun h => by first | cases h | (simp [undef] at h)), fun _ => rfl⟩
          · intro u w hR hd; exact ⟨fun hg => absurd ((hd.2.2.1 rfl).symm.trans hg) (fun h => by first | cases h | (simp [undef] at h)), fun _ => rfl⟩
          · intro u w hR hd; exact ⟨fun hg => absurd ((hd.2.1 rfl).symm.trans hg) (fun h => by first | cases h | (simp [undef] at h)), fun _ => rfl⟩
          · intro u w hR hd; exact ⟨fun hg => absurd ((hd.2.1 rfl).symm.trans hg) (fun h => by first | cases h | (simp [undef] at h)), fun _ => rfl⟩
          · intro u w hR hd; exact ⟨fun hg => absurd ((hd.2.2.1 rfl).symm.trans hg) (fun h => by first | cases h | (simp [undef] at h)), fun _ => rfl⟩
          · intro u w hR hd; exact ⟨fun hg => absurd ((hd.2.2.1 rfl).symm.trans hg) (fun h => by first | cases h | (simp [undef] at h)), fun _ => rfl⟩
          · intro u w hR hd; exact runs_orT (ev (hd.1 rfl)) ⟨rfl, rfl⟩
          · intro u h
            have he : u 34 = .bool true := h 22 (by decide)
            simp only [mixA, mixL, cond_true, cond_false]
            rw [he]
            clear h he c0 c1
            go_wp2
            go_ret
            exact ⟨ret_bool HN.out.symm, (HG.out.trans hG).drw⟩
        · cases k with
          | zero =>
            have HY : Hid (asc (-1) (xs.take (0 + 1)) = true) := Lib.hid (by rw [HTK.out, asc_add _ _ HA.out]; exact decide_eq_true (by simp [lastT]; omega))
            clear hnx
            simp only [Nat.zero_mul, Nat.add_zero] at d0 d1
            go_wp2
            generalize hV : World.alloc _ _ = W1
            have hB : Blk wr.heap.size (itc x) 37 W1 := by subst hV; exact Blk.new wr _ _
            have hG : Grew wr W1 := by subst hV; exact (Grew.refl _).alloc _
            generalize wr.heap.size = S at hB
            clear hV d0 d1
            have c0 : Atv ⟨S, 0, none⟩ (.int .i64 x.1) W1.drew := (hB.grew (Grew.refl _).drw).atv 0 rfl
            have c1 : Atv ⟨S, 1, none⟩ (.int .i16 x.2) W1.drew := (hB.grew (Grew.refl _).drw).atv 1 rfl
            refine wp_still [some 12, some 13, some 14, some 15, some 16, some 17, some 18, some 19, some 20, some 21, some 22, some 23, some 24, some 25, some 26, some 27, some 28, some 29, some 30, some 31, some 32, some 33, some 34] [false, false, false, false, false, false, false, false, false, false, false, false, true, true, true, true, true, true, true, true, true, true, true, true, true, true, true, true, true, true, true, true, true, true, true, false] [fun v _ => v = .pointer (some ⟨S, 0, none⟩), fun v _ => v = .int .i64 (x.1), fun v _ => v = .bool (false), fun v _ => v = .bool (false), fun v _ => v = .pointer (some ⟨S, 0, none⟩), fun v _ => v = .int .i64 (x.1), fun v _ => v = .bool (false), fun v _ => v = .bool (false), fun v _ => v = .bool (false), fun v _ => v = .int .i64 ((0 : Int)), fun v _ => v = .bool (false), fun v _ => v = .bool (false), fun v _ => v = undef, fun v _ => v = undef, fun v _ => v = undef, fun v _ => v = undef, fun v _ => v = undef, fun v _ => v = undef, fun v _ => v = undef, fun v _ => v = undef, fun v _ => v = undef, fun v _ => v = .bool (false), fun v _ => v = .bool (false)] (by kernel_rfl) (by kernel_rfl) rfl ⟨?_, ?_, ?_, ?_, ?_, ?_, ?_, ?_, ?_, ?_, ?_, ?_, ?_, ?_, ?_, ?_, ?_, ?_, ?_, ?_, ?_, ?_, ?_, trivial⟩ ?_
            · intro u w hR hd; exact rn_fld_37_0 (ev rfl) ⟨rfl, rfl⟩
            · intro u w hR hd; exact rn_ld_2 (ev (hd.1 rfl)) (c0.kept hR) ⟨rfl, rfl⟩
            · intro u w hR hd; exact rn_lss_2 (ev (hd.1 rfl)) rfl ⟨rfl, (congrArg Value.bool (decide_eq_false (by omega)))⟩
            · intro u w hR hd; exact runs_mv (ev (hd.1 rfl)) ⟨rfl, rfl⟩
            · intro u w hR hd; exact ⟨fun _ => rn_fld_37_0 (ev rfl) ⟨rfl, rfl⟩, fun hn => absurd (hd.1 rfl) hn⟩
            · intro u w hR hd; exact ⟨fun _ => rn_ld_2 (ev (hd.1 rfl)) (c0.kept hR) ⟨rfl, rfl⟩, fun hn => absurd (hd.2.1 rfl) hn⟩
            · intro u w hR hd; exact ⟨fun _ => rn_gtr_2 (ev (hd.1 rfl)) rfl ⟨rfl, (congrArg Value.bool (decide_eq_false (by omega)))⟩, fun hn => absurd (hd.2.1 rfl) hn⟩
            · intro u w hR hd; exact runs_or2 (ev (hd.1 rfl)) (fun hb => ev ((hd.2.1 rfl))) ⟨rfl, rfl⟩
            · intro u w hR hd; exact runs_mv (ev (hd.1 rfl)) ⟨rfl, rfl⟩
            · intro u w hR hd; exact ⟨fun _ => runs_mv (ev rfl) ⟨rfl, rfl⟩, fun hn => absurd (hd.1 rfl) hn⟩
            · intro u w hR hd; exact ⟨fun _ => rn_gtr_3 (ev (hd.1 rfl)) rfl ⟨rfl, (congrArg Value.bool (decide_eq_false (by omega)))⟩, fun hn => absurd (hd.2.1 rfl) hn⟩
            · intro u w hR hd; exact ⟨fun _ => runs_mv (ev (hd.1 rfl)) ⟨rfl, rfl⟩, fun hn => absurd (hd.2.1 rfl) hn⟩
            · intro u w hR hd; exact ⟨fun hg => absurd ((hd.1 rfl).symm.trans hg) (fun h => by first | cases h | (simp [undef] at h)), fun _ => rfl⟩
            · intro u w hR hd; exact ⟨fun hg => absurd ((hd.2.1 rfl).symm.trans hg) (fun h => by first | cases h | (simp [undef] at h)), fun _ => rfl⟩
            · intro u w hR hd; exact ⟨fun hg => absurd ((hd.1 rfl).symm.trans hg) (fun h => by first | cases h | (simp [undef] at h)), fun _ => rfl⟩
            · intro u w hR hd; exact ⟨fun hg => absurd ((hd.1 rfl).symm.trans hg) (fun h => by first | cases h | (simp [undef] at h)), fun _ => rfl⟩
            · intro u w hR hd; exact ⟨fun hg => absurd ((hd.2.1 rfl).symm.trans hg) (fun h => by first | cases h | (simp [undef] at h)), fun _ => rfl⟩
            · intro u w hR hd; exact ⟨fun hg => absurd ((hd.2.2.1 rfl).symm.trans hg) (fun h => by first | cases h | (simp [undef] at h)), fun _ => rfl⟩
            · intro u w hR hd; exact ⟨fun hg => absurd ((hd.2.1 rfl).symm.trans hg) (fun h => by first | cases h | (simp [undef] at h)), fun _ => rfl⟩
            · intro u w hR hd; exact ⟨fun hg => absurd ((hd.2.1 rfl).symm.trans hg) (fun h => by first | cases h | (simp [undef] at h)), fun _ => rfl⟩
            · intro u w hR hd; exact ⟨fun hg => absurd ((hd.2.2.1 rfl).symm.trans hg) (fun h => by first | cases h | (simp [undef] at h)), fun _ => rfl⟩
            · intro u w hR hd; exact ⟨fun _ => runs_andF (ev (hd.1 rfl)) ⟨rfl, rfl⟩, fun hn => absurd (hd.2.2.1 rfl) hn⟩
            · intro u w hR hd; exact runs_or2 (ev (hd.1 rfl)) (fun hb => ev ((hd.2.1 rfl))) ⟨rfl, rfl⟩
            · intro u h
              have he : u 34 = .bool false := h 22 (by decide)
              simp only [mixA, mixL, cond_true, cond_false]
              rw [he]
              clear h he c0 c1
              go_wp2
              go_roundg (n - (0 + 1))
              case measure => have := HLT.out; omega
              case rel => exact ⟨0 + 1, by go_num, HLT.out, rfl, Lib.hid HY.out, Lib.hid (HG.out.trans hG).drw⟩
          | succ m =>
            have hz : xs[m]? = some (xs[m]'(by omega)) := List.getElem?_eq_getElem (by omega)
            have hla := hnx m _ rfl hz
            have HP : Hid (Atv ⟨b, o + m * 2, none⟩ (.int .i64 (xs[m]'(by omega)).1) wr) := Lib.hid (by have := HCC.out m _ hz 0 _ rfl; rwa [Nat.add_zero] at this)
            generalize xs[m]'(by omega) = z at hla HP
            clear hnx hz HCC
            by_cases q3 : x.1 ≤ z.1
            · have HN := Lib.hid (asc_stop HA.out HTK.out (decide_eq_false (fun hh => by rw [hla] at hh; omega)))
              clear hla
              go_wp2
              generalize hV : World.alloc _ _ = W1
              have hB : Blk wr.heap.size (itc x) 37 W1 := by subst hV; exact Blk.new wr _ _
              have hG : Grew wr W1 := by subst hV; exact (Grew.refl _).alloc _
              generalize wr.heap.size = S at hB
              clear hV d0 d1
              have c0 : Atv ⟨S, 0, none⟩ (.int .i64 x.1) W1.drew := (hB.grew (Grew.refl _).drw).atv 0 rfl
              have c1 : Atv ⟨S, 1, none⟩ (.int .i16 x.2) W1.drew := (hB.grew (Grew.refl _).drw).atv 1 rfl
              have p0 : Atv ⟨b, o + m * 2, none⟩ (.int .i64 z.1) W1.drew := HP.out.grew (hG.drw)
              refine wp_still [some 12, some 13, some 14, some 15, some 16, some 17, some 18, some 19, some 20, some 21, some 22, some 23, some 24, some 25, some 26, some 27, some 28, some 29, some 30, some 31, some 32, some 33, some 34] [false, false, false, false, false, false, false, false, false, false, false, false, true, true, true, true, true, true, true, true, true, true, true, true, true, true, true, true, true, true, true, true, true, true, true, false] [fun v _ => v = .pointer (some ⟨S, 0, none⟩), fun v _ => v = .int .i64 (x.1), fun v _ => v = .bool (false), fun v _ => v = .bool (false), fun v _ => v = .pointer (some ⟨S, 0, none⟩), fun v _ => v = .int .i64 (x.1), fun v _ => v = .bool (false), fun v _ => v = .bool (false), fun v _ => v = .bool (false), fun v _ => v = .int .i64 ((((m + 1 : Nat)) : Int)), fun v _ => v = .bool (true), fun v _ => v = .bool (true), fun v _ => v = .pointer (some ⟨S, 0, none⟩), fun v _ => v = .int .i64 (x.1), fun v _ => v = .slice (some ⟨b, o, none⟩) (n) (cap), fun v _ => v = .int .i64 ((((m + 1 : Nat)) : Int)), fun v _ => v = .int .i64 (((m : Nat) : Int)), fun v _ => v = .pointer (some ⟨b, o + m * 2, none⟩), fun v _ => v = .pointer (some ⟨b, o + m * 2, none⟩), fun v _ => v = .int .i64 (z.1), fun v _ => v = .bool (true), fun v _ => v = .bool (true), fun v _ => v = .bool (true)] (by kernel_rfl) (by kernel_rfl) rfl ⟨?_, ?_, ?_, ?_, ?_, ?_, ?_, ?_, ?_, ?_, ?_, ?_, ?_, ?_, ?_, ?_, ?_, ?_, ?_, ?_, ?_, ?_, ?_, trivial⟩ ?_
              · intro u w hR hd; exact rn_fld_37_0 (ev rfl) ⟨rfl, rfl⟩
              · intro u w hR hd; exact rn_ld_2 (ev (hd.1 rfl)) (c0.kept hR) ⟨rfl, rfl⟩
              · intro u w hR hd; exact rn_lss_2 (ev (hd.1 rfl)) rfl ⟨rfl, (congrArg Value.bool (decide_eq_false (by omega)))⟩
              · intro u w hR hd; exact runs_mv (ev (hd.1 rfl)) ⟨rfl, rfl⟩
              · intro u w hR hd; exact ⟨fun _ => rn_fld_37_0 (ev rfl) ⟨rfl, rfl⟩, fun hn => absurd (hd.1 rfl) hn⟩
              · intro u w hR hd; exact ⟨fun _ => rn_ld_2 (ev (hd.1 rfl)) (c0.kept hR) ⟨rfl, rfl⟩, fun hn => absurd (hd.2.1 rfl) hn⟩
              · intro u w hR hd; exact ⟨fun _ => rn_gtr_2 (ev (hd.1 rfl)) rfl ⟨rfl, (congrArg Value.bool (decide_eq_false (by omega)))⟩, fun hn => absurd (hd.2.1 rfl) hn⟩
              · intro u w hR hd; exact runs_or2 (ev (hd.1 rfl)) (fun hb => ev ((hd.2.1 rfl))) ⟨rfl, rfl⟩
              · intro u w hR hd; exact runs_mv (ev (hd.1 rfl)) ⟨rfl, rfl⟩
              · intro u w hR hd; exact ⟨fun _ => runs_mv (ev rfl) ⟨rfl, rfl⟩, fun hn => absurd (hd.1 rfl) hn⟩
              · intro u w hR hd; exact ⟨fun _ => rn_gtr_3 (ev (hd.1 rfl)) rfl ⟨rfl, (congrArg Value.bool (decide_eq_true (by omega)))⟩, fun hn => absurd (hd.2.1 rfl) hn⟩
              · intro u w hR hd; exact ⟨fun _ => runs_mv (ev (hd.1 rfl)) ⟨rfl, rfl⟩, fun hn => absurd (hd.2.1 rfl) hn⟩
              · intro u w hR hd; exact ⟨fun _ => rn_fld_37_0 (ev rfl) ⟨rfl, rfl⟩, fun hn => absurd (hd.1 rfl) hn⟩
              · intro u w hR hd; exact ⟨fun _ => rn_ld_2 (ev (hd.1 rfl)) (c0.kept hR) ⟨rfl, rfl⟩, fun hn => absurd (hd.2.1 rfl) hn⟩
              · intro u w hR hd; exact ⟨fun _ => runs_mv (ev rfl) ⟨rfl, rfl⟩, fun hn => absurd (hd.1 rfl) hn⟩
              · intro u w hR hd; exact ⟨fun _ => runs_mv (ev rfl) ⟨rfl, rfl⟩, fun hn => absurd (hd.1 rfl) hn⟩
              · intro u w hR hd; exact ⟨fun _ => rn_sub_3 (ev (hd.1 rfl)) rfl (by omega) ⟨rfl, (congrArg (Value.int .i64) (by omega))⟩, fun hn => absurd (hd.2.1 rfl) hn⟩
              · intro u w hR hd; exact ⟨fun _ => rn_idx_28 (m) (ev (hd.1 rfl)) (ev (hd.2.1 rfl)) (by omega) ⟨rfl, rfl⟩, fun hn => absurd (hd.2.2.1 rfl) hn⟩
              · intro u w hR hd; exact ⟨fun _ => rn_fld_37_0 (ev (hd.1 rfl)) ⟨rfl, rfl⟩, fun hn => absurd (hd.2.1 rfl) hn⟩
              · intro u w hR hd; exact ⟨fun _ => rn_ld_2 (ev (hd.1 rfl)) (p0.kept hR) ⟨rfl, rfl⟩, fun hn => absurd (hd.2.1 rfl) hn⟩
              · intro u w hR hd; exact ⟨fun _ => rn_leq_2 (ev (hd.1 rfl)) (ev (hd.2.1 rfl)) ⟨rfl, (congrArg Value.bool (decide_eq_true (by omega)))⟩, fun hn => absurd (hd.2.2.1 rfl) hn⟩
              · intro u w hR hd; exact ⟨fun _ => runs_an (ev (hd.1 rfl)) (fun hb => ev ((hd.2.1 rfl))) ⟨rfl, rfl⟩, fun hn => absurd (hd.2.2.1 rfl) hn⟩
              · intro u w hR hd; exact runs_or2 (ev (hd.1 rfl)) (fun hb => ev ((hd.2.1 rfl))) ⟨rfl, rfl⟩
              · intro u h
                have he : u 34 = .bool true := h 22 (by decide)
                simp only [mixA, mixL, cond_true, cond_false]
                rw [he]
                clear h he c0 c1
                go_wp2
                go_ret
                exact ⟨ret_bool HN.out.symm, (HG.out.trans hG).drw⟩
            · have HY : Hid (asc (-1) (xs.take (m + 1 + 1)) = true) := Lib.hid (by rw [HTK.out, asc_add _ _ HA.out]; exact decide_eq_true (by rw [hla]; omega))
              clear hla
              go_wp2
              generalize hV : World.alloc _ _ = W1
              have hB : Blk wr.heap.size (itc x) 37 W1 := by subst hV; exact Blk.new wr _ _
              have hG : Grew wr W1 := by subst hV; exact (Grew.refl _).alloc _
              generalize wr.heap.size = S at hB
              clear hV d0 d1
              have c0 : Atv ⟨S, 0, none⟩ (.int .i64 x.1) W1.drew := (hB.grew (Grew.refl _).drw).atv 0 rfl
              have c1 : Atv ⟨S, 1, none⟩ (.int .i16 x.2) W1.drew := (hB.grew (Grew.refl _).drw).atv 1 rfl
              have p0 : Atv ⟨b, o + m * 2, none⟩ (.int .i64 z.1) W1.drew := HP.out.grew (hG.drw)
              refine wp_still [some 12, some 13, some 14, some 15, some 16, some 17, some 18, some 19, some 20, some 21, some 22, some 23, some 24, some 25, some 26, some 27, some 28, some 29, some 30, some 31, some 32, some 33, some 34] [false, false, false, false, false, false, false, false, false, false, false, false, true, true, true, true, true, true, true, true, true, true, true, true, true, true, true, true, true, true, true, true, true, true, true, false] [fun v _ => v = .pointer (some ⟨S, 0, none⟩), fun v _ => v = .int .i64 (x.1), fun v _ => v = .bool (false), fun v _ => v = .bool (false), fun v _ => v = .pointer (some ⟨S, 0, none⟩), fun v _ => v = .int .i64 (x.1), fun v _ => v = .bool (false), fun v _ => v = .bool (false), fun v _ => v = .bool (false), fun v _ => v = .int .i64 ((((m + 1 : Nat)) : Int)), fun v _ => v = .bool (true), fun v _ => v = .bool (true), fun v _ => v = .pointer (some ⟨S, 0, none⟩), fun v _ => v = .int .i64 (x.1), fun v _ => v = .slice (some ⟨b, o, none⟩) (n) (cap), fun v _ => v = .int .i64 ((((m + 1 : Nat)) : Int)), fun v _ => v = .int .i64 (((m : Nat) : Int)), fun v _ => v = .pointer (some ⟨b, o + m * 2, none⟩), fun v _ => v = .pointer (some ⟨b, o + m * 2, none⟩), fun v _ => v = .int .i64 (z.1), fun v _ => v = .bool (false), fun v _ => v = .bool (false), fun v _ => v = .bool (false)] (by kernel_rfl) (by kernel_rfl) rfl ⟨?_, ?_, ?_, ?_, ?_, ?_, ?_, ?_, ?_, ?_, ?_, ?_, ?_, ?_, ?_, ?_, ?_, ?_, ?_, ?_, ?_, ?_, ?_, trivial⟩ ?_
              · intro u w hR hd; exact rn_fld_37_0 (ev rfl) ⟨rfl, rfl⟩
              · intro u w hR hd; exact rn_ld_2 (ev (hd.1 rfl)) (c0.kept hR) ⟨rfl, rfl⟩
              · intro u w hR hd; exact rn_lss_2 (ev (hd.1 rfl)) rfl ⟨rfl, (congrArg Value.bool (decide_eq_false (by omega)))⟩
              · intro u w hR hd; exact runs_mv (ev (hd.1 rfl)) ⟨rfl, rfl⟩
              · intro u w hR hd; exact ⟨fun _ => rn_fld_37_0 (ev rfl) ⟨rfl, rfl⟩, fun hn => absurd (hd.1 rfl) hn⟩
              · intro u w hR hd; exact ⟨fun _ => rn_ld_2 (ev (hd.1 rfl)) (c0.kept hR) ⟨rfl, rfl⟩, fun hn => absurd (hd.2.1 rfl) hn⟩
              · intro u w hR hd; exact ⟨fun _ => rn_gtr_2 (ev (hd.1 rfl)) rfl ⟨rfl, (congrArg Value.bool (decide_eq_false (by omega)))⟩, fun hn => absurd (hd.2.1 rfl) hn⟩
              · intro u w hR hd; exact runs_or2 (ev (hd.1 rfl)) (fun hb => ev ((hd.2.1 rfl))) ⟨rfl, rfl⟩
              · intro u w hR hd; exact runs_mv (ev (hd.1 rfl)) ⟨rfl, rfl⟩
              · intro u w hR hd; exact ⟨fun _ => runs_mv (ev rfl) ⟨rfl, rfl⟩, fun hn => absurd (hd.1 rfl) hn⟩
              · intro u w hR hd; exact ⟨fun _ => rn_gtr_3 (ev (hd.1 rfl)) rfl ⟨rfl, (congrArg Value.bool (decide_eq_true (by omega)))⟩, fun hn => absurd (hd.2.1 rfl) hn⟩
              · intro u w hR hd; exact ⟨fun _ => runs_mv (ev (hd.1 rfl)) ⟨rfl, rfl⟩, fun hn => absurd (hd.2.1 rfl) hn⟩
              · intro u w hR hd; exact ⟨fun _ => rn_fld_37_0 (ev rfl) ⟨rfl, rfl⟩, fun hn => absurd (hd.1 rfl) hn⟩
              · intro u w hR hd; exact ⟨fun _ => rn_ld_2 (ev (hd.1 rfl)) (c0.kept hR) ⟨rfl, rfl⟩, fun hn => absurd (hd.2.1 rfl) hn⟩
              · intro u w hR hd; exact ⟨fun _ => runs_mv (ev rfl) ⟨rfl, rfl⟩, fun hn => absurd (hd.1 rfl) hn⟩
              · intro u w hR hd; exact ⟨fun _ => runs_mv (ev rfl) ⟨rfl, rfl⟩, fun hn => absurd (hd.1 rfl) hn⟩
              · intro u w hR hd; exact ⟨fun _ => rn_sub_3 (ev (hd.1 rfl)) rfl (by omega) ⟨rfl, (congrArg (Value.int .i64) (by omega))⟩, fun hn => absurd (hd.2.1 rfl) hn⟩
              · intro u w hR hd; exact ⟨fun _ => rn_idx_28 (m) (ev (hd.1 rfl)) (ev (hd.2.1 rfl)) (by omega) ⟨rfl, rfl⟩, fun hn => absurd (hd.2.2.1 rfl) hn⟩
              · intro u w hR hd; exact ⟨fun _ => rn_fld_37_0 (ev (hd.1 rfl)) ⟨rfl, rfl⟩, fun hn => absurd (hd.2.1 rfl) hn⟩
              · intro u w hR hd; exact ⟨fun _ => rn_ld_2 (ev (hd.1 rfl)) (p0.kept hR) ⟨rfl, rfl⟩, fun hn => absurd (hd.2.1 rfl) hn⟩
              · intro u w hR hd; exact ⟨fun _ => rn_leq_2 (ev (hd.1 rfl)) (ev (hd.2.1 rfl)) ⟨rfl, (congrArg Value.bool (decide_eq_false (by omega)))⟩, fun hn => absurd (hd.2.2.1 rfl) hn⟩
              · intro u w hR hd; exact ⟨fun _ => runs_an (ev (hd.1 rfl)) (fun hb => ev ((hd.2.1 rfl))) ⟨rfl, rfl⟩, fun hn => absurd (hd.2.2.1 rfl) hn⟩
              · intro u w hR hd; exact runs_or2 (ev (hd.1 rfl)) (fun hb => ev ((hd.2.1 rfl))) ⟨rfl, rfl⟩
              · intro u h
                have he : u 34 = .bool false := h 22 (by decide)
                simp only [mixA, mixL, cond_true, cond_false]
                rw [he]
                clear h he c0 c1
                go_wp2
                go_roundg (n - ((m + 1) + 1))
                case measure => have := HLT.out; omega
                case rel => exact ⟨(m + 1) + 1, by go_num, HLT.out, rfl, Lib.hid HY.out, Lib.hid (HG.out.trans hG).drw⟩
    · obtain rfl : k = n := by omega
      have h1 := HA.out
      rw [List.take_of_length_le (by rw [HNN.out]; exact Nat.le_refl _)] at h1
      have HN := Lib.hid h1
      clear h1
      go_wp2
      go_ret
      exact ⟨ret_bool HN.out.symm, HG.out⟩
end Go.Proofs.YtaehlpdnjfblbaaDoor
