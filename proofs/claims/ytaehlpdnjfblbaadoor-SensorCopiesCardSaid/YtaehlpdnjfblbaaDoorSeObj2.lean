/-
  CONTRACTS OF LAYER 10 (sensor): add as a whole, sort.Search, after, At, Next, Changes, New.
-/
import Derived.Test.YtaehlpdnjfblbaaDoorSeObj
import Derived.Test.YtaehlpdnjfblbaaDoorShelf
import Derived.Deep.QuietTactic
namespace Go.Proofs.YtaehlpdnjfblbaaDoor
open Go Go.RowKit Go.IntWalk
set_option linter.unusedSimpArgs false
set_option maxRecDepth 8000

theorem add_no (base t : Nat) (xs : List It) (c : It) (w : World) (h : Tr base t xs w) (ha : asc (-1) xs = true) (hl : xs.length ≤ 100000) (hb : base ≤ w.heap.size) (hok : okAdd xs c = false) :
    Calls Tryd.prog 31 #[.pointer (some ⟨t, 0, none⟩), itv c] w fun e w' => e = .returned (.bool false) ∧ Tr base t xs w' ∧ Below base w w' := by
  have HTr := Lib.hid h
  obtain ⟨p, cap, hT, hO, hbt⟩ := h
  simp only [okAdd, decide_eq_false_iff_not] at hok
  have hR := (hO.rd encI).2
  have c0 := hT.cell 0
  have ct := hT.lt
  simp only [List.getElem?_cons_zero] at c0
  have HB0 := Lib.hid hb
  have fin : Hid (Tr base t xs (w.alloc (.cells #[.int .i64 c.1, .int .i16 c.2] 34)) ∧ Below base w (w.alloc (.cells #[.int .i64 c.1, .int .i16 c.2] 34))) := Lib.hid ⟨HTr.out.grew ((Grew.refl _).alloc _), ((Grew.refl w).alloc _).mono hb⟩
  clear hbt hT hO hb HTr
  rcases hR.parts with rfl | ⟨hn, g, o, rfl⟩
  · simp only [lastT] at hok
    replace c0 : w.cell? ⟨t, 0, none⟩ = some (.slice p 0 cap) := c0
    clear ha hR hl
    go_enter Tryd.func31, Tryd.ntmps31
    go_wp2
    all_goals first | (exfalso; omega) | skip
    all_goals go_ret
    all_goals exact ⟨rfl, fin.out⟩
  · obtain ⟨m, hm⟩ : ∃ m, xs.length = m + 1 := ⟨xs.length - 1, by omega⟩
    have hx : xs[m]? = some (xs[m]'(by omega)) := List.getElem?_eq_getElem (by omega)
    have hla : lastT (-1) xs = (xs[m]'(by omega)).1 := by
      have := lastT_at (-1) xs m _ hx
      rwa [← hm, List.take_length] at this
    have d0 := hR.cell hx (j := 0) rfl
    have hbd := lastT_bd ha (by decide)
    rw [hla] at hok hbd
    generalize xs[m]'(by omega) = z at d0 hok hbd hla
    rw [Nat.add_zero] at d0
    have hw : IntKind.i64.wrap (z.1 + 1) = z.1 + 1 := i64_in _ (by omega)
    have hgl := hR.lt encI hn
    rw [hm] at c0
    have hml : m ≤ 100000 := by omega
    clear ha hR hla hx hm hl hn
    go_enter Tryd.func31, Tryd.ntmps31
    go_wp2
    all_goals first | (exfalso; omega) | skip
    all_goals go_ret
    all_goals exact ⟨rfl, fin.out⟩
theorem Grew.below {a w w' : World} (h : Grew a w) (h' : Below a.heap.size w w') : Grew a w' := Below.trans h h'
theorem add_any (base t : Nat) (xs : List It) (c : It) (w : World) (h : Tr base t xs w) (ha : asc (-1) xs = true) (hl : xs.length ≤ 100000) (hb : base ≤ w.heap.size) :
    Calls Tryd.prog 31 #[.pointer (some ⟨t, 0, none⟩), itv c] w fun e w' => e = .returned (.bool (okAdd xs c)) ∧ Tr base t (if okAdd xs c = true then xs ++ [c] else xs) w' ∧ Below base w w' := by
  cases hok : okAdd xs c with
  | false => simpa using add_no base t xs c w h ha hl hb hok
  | true => simpa using add_yes base t xs c w h ha hl hb hok

set_option maxHeartbeats 2000000 in
/-- sort.Search over places of which those from k on answer true. -/
theorem search_any (g : FuncId) (cb : Array Value) (n k : Nat) (w : World) (eg : ∀ args w, (callFunc g args).run Tryd.prog w = .ok (.enter g args) w) (hsz : n < 4611686018427387904) (hkn : k ≤ n)
    (hf : ∀ (W : World) (i : Nat), Grew w W → i < n → Calls Tryd.prog g (#[.int .i64 i] ++ cb) W fun e w' => e = .returned (.bool (decide (k ≤ i))) ∧ Grew W w') :
    Calls Tryd.prog 34 #[.int .i64 n, .func (.func g) #[] cb] w fun e w' => e = .returned (.int .i64 k) ∧ Grew w w' := by
  have HF := Lib.hid hf
  clear hf
  go_enter Tryd.func34, Tryd.ntmps34
  go_wp2
  go_loopg [5, 6] n (fun kx s5 s6 wr => ∃ (lo hi : Nat), s5 = .int .i64 lo ∧ s6 = .int .i64 hi ∧ lo ≤ k ∧ k ≤ hi ∧ hi ≤ n ∧ hi - lo ≤ kx ∧ Hid (Grew w wr))
  case atStart => exact ⟨0, n, rfl, rfl, Nat.zero_le _, hkn, Nat.le_refl _, by omega, Lib.hid (Grew.refl w)⟩
  case round =>
    obtain ⟨lo, hi, rfl, rfl, hlk, hkh, hin, hg, HG⟩ := hrel
    by_cases hlt : lo < hi
    · have hc := HF.out wr ((lo + hi) / 2) HG.out (by omega)
      rw [show (((lo + hi) / 2 : Nat) : Int) = ((lo : Int) + (hi : Int)) / 2 by omega] at hc
      by_cases hp : k ≤ (lo + hi) / 2
      · rw [decide_eq_true hp] at hc
        have HC := Lib.hid hc
        clear hc
        go_wp2_with (go_at_fn g; refine (HC.out).mono ?_; rintro e w1 ⟨rfl, g1⟩; have HG1 := Lib.hid (HG.out.trans g1); clear g1)
        go_roundg ((lo + hi) / 2 - lo)
        case measure => omega
        case rel => exact ⟨lo, (lo + hi) / 2, rfl, by rw [show ((lo : Int) + (hi : Int)) / 2 = (((lo + hi) / 2 : Nat) : Int) by omega], by omega, by omega, by omega, Nat.le_refl _, HG1⟩
      · rw [decide_eq_false hp] at hc
        have HC := Lib.hid hc
        clear hc
        go_wp2_with (go_at_fn g; refine (HC.out).mono ?_; rintro e w1 ⟨rfl, g1⟩; have HG1 := Lib.hid (HG.out.trans g1); clear g1)
        go_roundg (hi - ((lo + hi) / 2 + 1))
        case measure => omega
        case rel => exact ⟨(lo + hi) / 2 + 1, hi, by rw [show ((lo : Int) + (hi : Int)) / 2 + 1 = (((lo + hi) / 2 + 1 : Nat) : Int) by omega], rfl, by omega, by omega, hin, Nat.le_refl _, HG1⟩
    · obtain rfl : lo = k := by omega
      go_wp2
      go_ret
      exact ⟨rfl, HG.out⟩

/-- The trace at t reads as xs. -/
def TrR (t : Nat) (xs : List It) (w : World) : Prop := ∃ p c, Atv ⟨t, 0, none⟩ (.slice p xs.length c) w ∧ Rw 2 itc w p c xs ∧ ∀ a, p = some a → ∃ b o, a = ⟨b, o, none⟩
theorem TrR.grew {t : Nat} {xs : List It} {w w' : World} (h : TrR t xs w) (hg : Grew w w') : TrR t xs w' := by
  obtain ⟨p, c, h1, h2, h3⟩ := h
  exact ⟨p, c, h1.grew hg, h2.kept hg, h3⟩
theorem TrR.lt {t : Nat} {xs : List It} {w : World} (h : TrR t xs w) : t < w.heap.size := by
  obtain ⟨p, c, h1, _⟩ := h
  exact World.block_lt_of_cell? _ _ h1
theorem Tr.rd {base t : Nat} {xs : List It} {w : World} (h : Tr base t xs w) : TrR t xs w := by
  obtain ⟨p, c, h1, h2, h3⟩ := h
  refine ⟨p, c, h1.atv 0 rfl, (h2.rd encI).2, fun a ha => ?_⟩
  obtain ⟨p', c', hv, _, hb⟩ := h2.parts encI
  simp only [Value.slice.injEq] at hv
  obtain ⟨rfl, -, rfl⟩ := hv
  rcases hb with ⟨rfl, _⟩ | ⟨g, cur, rfl, _⟩
  · cases ha
  · exact ⟨g, 0, (Option.some.inj ha).symm⟩
theorem clo_any (b1 b2 t : Nat) (p : Option Addr) (m cap : Nat) (xs : List It) (time : Int) (i : Nat) (x : It) (w : World) (h1 : w.cell? ⟨b1, 0, none⟩ = some (.pointer (some ⟨t, 0, none⟩))) (h2 : w.cell? ⟨b2, 0, none⟩ = some (.int .i64 time))
    (h3 : w.cell? ⟨t, 0, none⟩ = some (.slice p m cap)) (h4 : Rw 2 itc w p cap xs) (hm : xs.length = m) (hx : xs[i]? = some x) :
    Calls Tryd.prog 35 (#[.int .i64 i] ++ #[.pointer (some ⟨b1, 0, none⟩), .pointer (some ⟨b2, 0, none⟩)]) w fun e w' => e = .returned (.bool (decide (time < x.1))) ∧ Grew w w' := by
  have hi := (List.getElem?_eq_some_iff.1 hx).1
  obtain ⟨b, o, rfl, hc⟩ := h4.rd.cells (by omega)
  have d0 := hc i x hx 0 _ rfl
  rw [Nat.add_zero] at d0
  have hmax := h4.max
  have hcap := h4.cap
  clear hc h4 hx
  have hi2 : (i : Int) < (m : Int) := by omega
  go_enter Tryd.func35, Tryd.ntmps35
  go_wp2
  go_quiet (fail)
  all_goals go_wp2
  all_goals go_ret
  all_goals refine ⟨rfl, ?_⟩
  all_goals repeat (first | with_reducible exact Grew.refl _ | with_reducible refine Grew.alloc ?_ _ | with_reducible refine Grew.drw ?_ | with_reducible refine Grew.drwN ?_ _ | with_reducible refine Grew.sc ?_ (by first | omega | (simp <;> omega)) _ _)
theorem enters_clo : ∀ args w, (callFunc 35 args).run Tryd.prog w = .ok (.enter 35 args) w := enters_of Tryd.func35 (by kernel_rfl) rfl
set_option maxHeartbeats 1000000 in
theorem after_any (t : Nat) (xs : List It) (time : Int) (w : World) (h : TrR t xs w) (ha : asc (-1) xs = true) (hl : xs.length ≤ 100000) :
    Calls Tryd.prog 27 #[.pointer (some ⟨t, 0, none⟩), .int .i64 time] w fun e w' => e = .returned (.int .i64 (aft xs time : Nat)) ∧ Grew w w' := by
  obtain ⟨p, cap, hT, hR, -⟩ := h
  have ct := World.block_lt_of_cell? _ _ hT
  have c0 : w.cell? ⟨t, 0, none⟩ = some (.slice p xs.length cap) := hT
  obtain ⟨q1, q2, q3⟩ := aft_parts ha time
  have HS : Hid (∀ W, Grew ((w.alloc (.cells #[.pointer (some ⟨t, 0, none⟩)] 23)).alloc (.cells #[.int .i64 time] 2)) W → Calls Tryd.prog 34 #[.int .i64 (xs.length : Nat), .func (.func 35) #[] #[.pointer (some ⟨w.heap.size, 0, none⟩), .pointer (some ⟨w.heap.size + 1, 0, none⟩)]] W fun e w' => e = .returned (.int .i64 (aft xs time : Nat)) ∧ Grew W w') := Lib.hid fun W hW => by
    have g0 : Grew w ((w.alloc (.cells #[.pointer (some ⟨t, 0, none⟩)] 23)).alloc (.cells #[.int .i64 time] 2)) := ((Grew.refl _).alloc _).alloc _
    have a1 : Atv ⟨w.heap.size, 0, none⟩ (.pointer (some ⟨t, 0, none⟩)) ((w.alloc (.cells #[.pointer (some ⟨t, 0, none⟩)] 23)).alloc (.cells #[.int .i64 time] 2)) := ((Blk.new w [.pointer (some ⟨t, 0, none⟩)] 23).grew ((Grew.refl _).alloc _)).atv 0 rfl
    have a2 : Atv ⟨w.heap.size + 1, 0, none⟩ (.int .i64 time) ((w.alloc (.cells #[.pointer (some ⟨t, 0, none⟩)] 23)).alloc (.cells #[.int .i64 time] 2)) := by
      have := (Blk.new (w.alloc (.cells #[.pointer (some ⟨t, 0, none⟩)] 23)) [.int .i64 time] 2).atv 0 rfl
      simpa using this
    refine search_any _ _ xs.length (aft xs time) W enters_clo (by omega) q1 fun W2 i hW2 hi => ?_
    have hg := g0.trans (hW.trans hW2)
    refine (clo_any w.heap.size (w.heap.size + 1) t p xs.length cap xs time i xs[i] W2 (a1.grew (hW.trans hW2)) (a2.grew (hW.trans hW2)) (hT.grew hg) (hR.kept hg) rfl (List.getElem?_eq_getElem hi)).mono fun e w' ⟨h1, h2⟩ => ⟨?_, h2⟩
    rw [h1]
    refine ret_bool ?_
    rw [Bool.eq_iff_iff, decide_eq_true_iff, decide_eq_true_iff]
    constructor
    · intro hlt
      rcases Nat.lt_or_ge i (aft xs time) with hl | hg
      · have := q2 i _ hl (List.getElem?_eq_getElem hi); omega
      · exact hg
    · intro hge
      exact q3 i _ hge (List.getElem?_eq_getElem hi)
  clear q1 q2 q3 hT hR ha
  go_enter Tryd.func27, Tryd.ntmps27
  go_wp2_with (go_at_call 34; (with_reducible refine (HS.out _ (Grew.refl _)).mono ?_); rintro e w1 ⟨rfl, g1⟩; have HG := Lib.hid g1; clear g1)
  go_ret
  exact ⟨rfl, (((Grew.refl _).alloc _).alloc _).trans HG.out⟩
theorem at_any (t : Nat) (xs : List It) (time : Int) (w : World) (h : TrR t xs w) (ha : asc (-1) xs = true) (hl : xs.length ≤ 100000) :
    Calls Tryd.prog 17 #[.pointer (some ⟨t, 0, none⟩), .int .i64 time] w fun e w' => e = .returned (.int .i16 (valAt xs time)) ∧ Grew w w' := by
  have HA := Lib.hid (after_any t xs time w h ha hl)
  have hle := aft_le xs time
  cases hk : aft xs time with
  | zero =>
    have HV := Lib.hid (show valAt xs time = 0 by unfold valAt; rw [if_pos hk])
    rw [hk] at HA
    clear hk h ha hl hle
    go_enter Tryd.func17, Tryd.ntmps17
    go_wp2_with (go_at_call 27; (with_reducible refine (HA.out).mono ?_); rintro e w1 ⟨rfl, g1⟩; have HG := Lib.hid g1; clear g1)
    go_ret
    exact ⟨ret_i16 HV.out.symm, HG.out⟩
  | succ k =>
    rw [hk] at hle HA
    have hkl : k < xs.length := hle
    have HV := Lib.hid (show valAt xs time = (xs[k]).2 by unfold valAt; rw [hk, if_neg (Nat.succ_ne_zero _), Nat.add_sub_cancel, List.getD_eq_getElem?_getD, List.getElem?_eq_getElem hkl]; rfl)
    obtain ⟨p, cap, hT, hR, -⟩ := h
    obtain ⟨b, o, rfl, hc⟩ := hR.rd.cells (by omega)
    have d1 := hc k xs[k] (List.getElem?_eq_getElem hkl) 1 _ rfl
    have HT := Lib.hid hT
    have HD : Hid (Atv ⟨b, o + k * 2 + 1, none⟩ (.int .i16 (xs[k]).2) w) := Lib.hid d1
    clear d1
    generalize (xs[k]).2 = z at HV HD
    have hmax := hR.max
    have hcap := hR.cap
    generalize xs.length = n at HT hl hkl hle hcap
    have hki : (k : Int) < (n : Int) := by omega
    clear hk ha hT hR hc
    go_enter Tryd.func17, Tryd.ntmps17
    go_wp2_with (go_at_call 27; (with_reducible refine (HA.out).mono ?_); rintro e w1 ⟨rfl, g1⟩; have c0 : w1.cell? ⟨t, 0, none⟩ = some (.slice (some ⟨b, o, none⟩) n cap) := HT.out.grew g1; have d0 : w1.cell? ⟨b, o + k * 2 + 1, none⟩ = some (.int .i16 z) := HD.out.grew g1; have HG := Lib.hid g1; clear g1)
    go_ret
    exact ⟨ret_i16 HV.out.symm, HG.out⟩
theorem next_any (t : Nat) (xs : List It) (time : Int) (w : World) (h : TrR t xs w) (ha : asc (-1) xs = true) (hl : xs.length ≤ 100000) :
    Calls Tryd.prog 15 #[.pointer (some ⟨t, 0, none⟩), .int .i64 time] w fun e w' => e = .returned (.tuple #[itv (nxt xs time).1, .bool (nxt xs time).2]) ∧ Grew w w' := by
  have HA := Lib.hid (fun ob => after_any t xs time (w.alloc ob) (h.grew ((Grew.refl w).alloc ob)) ha hl)
  have hle := aft_le xs time
  obtain ⟨p, cap, hT, hR, -⟩ := h
  have HT := Lib.hid hT
  have HW : Hid (w.heap.size ≤ w.heap.size) := Lib.hid (Nat.le_refl _)
  rcases Nat.eq_or_lt_of_le hle with hk | hk
  · have HV := Lib.hid (nxt_no hk)
    rw [hk] at HA
    generalize xs.length = n at HT HA hl
    clear hk ha hle hT hR
    go_enter Tryd.func15, Tryd.ntmps15
    go_wp2_with (go_at_call 27; generalize hV : World.alloc _ _ = V; have hB : Blk w.heap.size (itc (0, 0)) 34 V := (by subst hV; exact Blk.new w _ _); have hG : Grew w V := (by subst hV; exact (Grew.refl _).alloc _); have hC := HA.out; (with_reducible refine (hV ▸ hC _).mono ?_); clear hV hC; rintro e w1 ⟨rfl, g1⟩; have c0 : w1.cell? ⟨t, 0, none⟩ = some (.slice p n cap) := HT.out.grew (hG.trans g1); replace hB := hB.grew g1; have b0 := hB.cell 0; have b1 := hB.cell 1; have bf := hB.free; have bl := hB.lt; simp only [List.getElem?_cons_zero, List.getElem?_cons_succ] at b0 b1; have HB := Lib.hid hB; have HG := Lib.hid (hG.trans g1); clear g1 hB hG)
    refine rn_ret_c34_t Tryd.results15 (S0 := w.heap.size) (v0_0 := .int .i64 0) (v0_1 := .int .i16 0) (v1 := .bool false) rfl (by go_simp) (by go_simp) rfl ⟨?_, ?_⟩
    · rw [HV.out]
    · exact (HG.out.sc (Nat.le_refl _) _ _).sc (Nat.le_refl _) _ _
  · have hx : xs[aft xs time]? = some xs[aft xs time] := List.getElem?_eq_getElem hk
    have HV := Lib.hid (nxt_yes hx)
    obtain ⟨b, o, rfl, hc⟩ := hR.rd.cells (by omega)
    have HD0 : Hid (Atv ⟨b, o + aft xs time * 2, none⟩ (.int .i64 (xs[aft xs time]).1) w) := Lib.hid (by have := hc _ _ hx 0 _ rfl; rwa [Nat.add_zero] at this)
    have HD1 : Hid (Atv ⟨b, o + aft xs time * 2 + 1, none⟩ (.int .i16 (xs[aft xs time]).2) w) := Lib.hid (hc _ _ hx 1 _ rfl)
    generalize xs[aft xs time] = z at HV HD0 HD1 hx
    have hmax := hR.max
    have hcap := hR.cap
    generalize aft xs time = k at HA HD0 HD1 hk
    generalize xs.length = n at HT hl hk hcap
    have hki : (k : Int) < (n : Int) := by omega
    have hkne : ((k : Int) == (n : Int)) = false := by rw [beq_eq_false_iff_ne]; omega
    clear ha hle hT hR hc hx
    go_enter Tryd.func15, Tryd.ntmps15
    go_wp2_with (go_at_call 27; generalize hV : World.alloc _ _ = V; have hB : Blk w.heap.size (itc (0, 0)) 34 V := (by subst hV; exact Blk.new w _ _); have hG : Grew w V := (by subst hV; exact (Grew.refl _).alloc _); have hC := HA.out; (with_reducible refine (hV ▸ hC _).mono ?_); clear hV hC; rintro e w1 ⟨rfl, g1⟩; have c0 : w1.cell? ⟨t, 0, none⟩ = some (.slice (some ⟨b, o, none⟩) n cap) := HT.out.grew (hG.trans g1); have d0 : w1.cell? ⟨b, o + k * 2, none⟩ = some (.int .i64 z.1) := HD0.out.grew (hG.trans g1); have d1 : w1.cell? ⟨b, o + k * 2 + 1, none⟩ = some (.int .i16 z.2) := HD1.out.grew (hG.trans g1); replace hB := hB.grew g1; have b0 := hB.cell 0; have b1 := hB.cell 1; have bf := hB.free; have bl := hB.lt; simp only [List.getElem?_cons_zero, List.getElem?_cons_succ] at b0 b1; have HB := Lib.hid hB; have HG := Lib.hid (hG.trans g1); clear g1 hB hG)
    refine rn_ret_c34_t Tryd.results15 (S0 := w.heap.size) (v0_0 := .int .i64 z.1) (v0_1 := .int .i16 z.2) (v1 := .bool true) rfl (by go_simp) (by go_simp) rfl ⟨?_, ?_⟩
    · rw [HV.out]
    · exact (HG.out.sc (Nat.le_refl _) _ _).sc (Nat.le_refl _) _ _
theorem clone_any (p : Option Addr) (n c : Nat) (xs : List It) (w : World) (h : Rw 2 itc w p c xs) (hn : xs.length = n) (hl : n ≤ 100000) (hp : ∀ a, p = some a → ∃ b o, a = ⟨b, o, none⟩) :
    Calls Tryd.prog 26 #[.slice p n c] w fun e w' => ∃ p' c', e = .returned (.slice p' n c') ∧ OwR w' w.heap.size 34 2 itc (.slice p' n c') xs ∧ Grew w w' := by
  subst hn
  cases p with
  | none =>
    have h0 : xs = [] := List.eq_nil_of_length_eq_zero (by have := h.cap; have := h.bare rfl; omega)
    subst h0
    refine (Tryd.slices_Clone_nil _ _ w).mono ?_
    rintro e w' ⟨rfl, rfl⟩
    exact ⟨none, 0, rfl, OwR.nil _ _ _ _ _, Grew.refl _⟩
  | some ad =>
    obtain ⟨i0, hi, hz0, hz1, hz2⟩ := info_parts infoC
    obtain ⟨b, o, rfl⟩ := hp ad rfl
    have hc : ∀ j u, (flatL itc xs)[j]? = some u → w.cell? ⟨b, o + j, none⟩ = some u := fun j u hj => by
      obtain ⟨x, hx, hu⟩ := flatL_at encI xs j u hj
      have := h.cell hx hu
      rwa [show o + j / 2 * 2 + j % 2 = o + j by omega] at this
    refine (Tryd.slices_Clone i0 (itv (0, 0)) 2 16 hi hz0 hz1 hz2 rfl (by decide) Tryd.sizeOf34 b o xs.length c (flatL itc xs) w (flatL_len encI xs) (by simp only [maxLen]; omega) (by omega) hc (flatL_mem encI)).mono ?_
    rintro e w' ⟨v', rfl, hO, _, hB⟩
    have hO' : OwR w' w.heap.size 34 2 itc v' xs := hO
    obtain ⟨p', c', rfl, _, _⟩ := hO'.parts encI
    exact ⟨p', c', rfl, hO', hB⟩
theorem chg_any (t : Nat) (xs : List It) (w : World) (h : TrR t xs w) (hl : xs.length ≤ 100000) :
    Calls Tryd.prog 14 #[.pointer (some ⟨t, 0, none⟩)] w fun e w' => ∃ p c, e = .returned (.slice p xs.length c) ∧ OwR w' w.heap.size 34 2 itc (.slice p xs.length c) xs ∧ Grew w w' := by
  obtain ⟨p, cap, hT, hR, hp⟩ := h
  have c0 : w.cell? ⟨t, 0, none⟩ = some (.slice p xs.length cap) := hT
  have HC := Lib.hid (clone_any p xs.length cap xs w hR rfl hl hp)
  clear hT hR hp hl
  go_enter Tryd.func14, Tryd.ntmps14
  go_wp2_with (go_at_call 26; (with_reducible refine (HC.out).mono ?_); rintro e w1 ⟨p', c', rfl, h1, g1⟩; have H1 := Lib.hid h1; have HG := Lib.hid g1; clear h1 g1)
  go_ret
  exact ⟨p', c', rfl, H1.out, HG.out⟩
set_option maxHeartbeats 2000000 in
/-- New. -/
theorem new_any (p : Option Addr) (n c : Nat) (xs : List It) (w : World) (h : Rw 2 itc w p c xs) (hn : xs.length = n) (hl : n ≤ 100000) :
    Calls Tryd.prog 25 #[.slice p n c] w fun e w' => ((asc (-1) xs = true ∧ ∃ t, e = .returned (.tuple #[.pointer (some ⟨t, 0, none⟩), .int .i64 0]) ∧ Tr w.heap.size t xs w') ∨ (asc (-1) xs = false ∧ e = .returned (.tuple #[.pointer none, .int .i64 1]))) ∧ Grew w w' := by
  subst hn
  have HX := Lib.hid h
  have hcap := h.cap
  have hmax := h.max
  clear h
  go_enter Tryd.func25, Tryd.ntmps25
  go_wp2
  obtain ⟨t, ht⟩ : ∃ t, t = w.heap.size := ⟨_, rfl⟩
  rw [← ht]
  refine wp_at9 (fun W => Tr w.heap.size t [] W ∧ Grew w W) ⟨⟨none, 0, by rw [ht]; exact Blk.new w _ _, OwR.nil _ _ _ _ _, Nat.le_of_eq ht.symm⟩, (Grew.refl _).alloc _⟩ ?_
  intro W hW
  have HS := Lib.hid hW
  clear hW ht
  go_loopg [11] xs.length (fun gg iv wr => ∃ (k : Nat), iv = .int .i64 (k : Int) ∧ k ≤ xs.length ∧ gg = xs.length - k ∧ Hid (asc (-1) (xs.take k) = true ∧ Tr w.heap.size t (xs.take k) wr ∧ Grew w wr))
  case atStart => exact ⟨0, rfl, Nat.zero_le _, rfl, Lib.hid ⟨rfl, HS.out.1, HS.out.2⟩⟩
  clear HS
  case round =>
    obtain ⟨k, rfl, hk, rfl, HR⟩ := hrel
    by_cases hlt : k < xs.length
    · obtain ⟨b', o', rfl, hcc⟩ := (HX.out.kept HR.out.2.2).rd.cells (by omega)
      have hc1 := hcc k xs[k] (by simp [hlt])
      have hx : xs[k]? = some xs[k] := by simp [hlt]
      have hlb : b' < wr.heap.size := World.block_lt_of_cell? _ _ (hc1 0 _ rfl)
      have HLT := Lib.hid (Nat.succ_le_of_lt hlt)
      have HTK := Lib.hid (List.take_succ_eq_append_getElem hlt)
      generalize xs[k] = a at hc1 hx HTK
      have d0 : wr.cell? ⟨b', o' + k * 2, none⟩ = some (.int .i64 a.1) := by simpa using hc1 0 _ rfl
      have d1 : wr.cell? ⟨b', o' + k * 2 + 1, none⟩ = some (.int .i16 a.2) := hc1 1 _ rfl
      have HA := Lib.hid (fun ob => add_any w.heap.size t (xs.take k) a (wr.alloc ob) (HR.out.2.1.grew ((Grew.refl _).alloc _)) HR.out.1 (by simp; omega) (Nat.le_trans HR.out.2.2.size (by simp)))
      cases hok : okAdd (xs.take k) a with
      | true =>
        rw [hok] at HA
        have HOK := Lib.hid hok
        clear hcc hc1 hx hok
        go_wp2_with (go_at_call 31; (with_reducible refine (HA.out _).mono ?_); rintro e w3 ⟨rfl, h1, h2⟩; have HD : Hid (Tr w.heap.size t (xs.take k ++ [a]) w3 ∧ Grew w w3) := Lib.hid ⟨h1, HR.out.2.2.alloc _ |>.below h2⟩; clear h1 h2)
        go_roundg (xs.length - (k + 1))
        case measure => have := HLT.out; omega
        case rel => exact ⟨k + 1, by go_num, HLT.out, rfl, Lib.hid ⟨by rw [HTK.out, asc_add _ _ HR.out.1]; exact HOK.out, by rw [HTK.out]; exact HD.out.1, HD.out.2⟩⟩
      | false =>
        rw [hok] at HA
        have HN : Hid (asc (-1) xs = false) := Lib.hid (by
          cases hA : asc (-1) xs with
          | false => rfl
          | true =>
            have h1 : asc (-1) (xs.take (k + 1)) = true := asc_left (ys := xs.drop (k + 1)) (by rw [List.take_append_drop]; exact hA)
            rw [HTK.out, asc_add _ _ HR.out.1, hok] at h1
            cases h1)
        clear hcc hc1 hx hok
        go_wp2_with (go_at_call 31; (with_reducible refine (HA.out _).mono ?_); rintro e w3 ⟨rfl, h1, h2⟩; have HD : Hid (Grew w w3) := Lib.hid (HR.out.2.2.alloc _ |>.below h2); clear h1 h2)
        refine bodyPost_ret (v := .tuple #[.pointer none, .int .i64 1]) (by simp [results, Tryd.results25, go_sem]) rfl ?_
        exact ⟨.inr ⟨HN.out, rfl⟩, HD.out⟩
    · obtain rfl : k = xs.length := by omega
      go_wp2
      refine bodyPost_ret (v := .tuple #[.pointer (some ⟨t, 0, none⟩), .int .i64 0]) (by simp [results, Tryd.results25, go_sem]) rfl ?_
      rw [List.take_length] at HR
      exact ⟨.inl ⟨HR.out.1, t, rfl, HR.out.2.1⟩, HR.out.2.2⟩
end Go.Proofs.YtaehlpdnjfblbaaDoor
