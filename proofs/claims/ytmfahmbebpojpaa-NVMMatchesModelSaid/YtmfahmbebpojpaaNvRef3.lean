/-
  LAYER 7 (nvm): the reference's New, Word, Arm, PowerOn, ReadBytes, ReadWord; the statements' meter.
-/
import Derived.Test.YtmfahmbebpojpaaNvRef2
import Derived.Deep.QuietTactic
import Derived.BigQuiet
import Derived.Lib.EndianBits
namespace Go.Proofs.Ytmfahmbebpojpaa
open Go Go.RowKit Go.IntWalk
set_option linter.unusedSimpArgs false
set_option maxRecDepth 8000

theorem heap_second (w : World) (a b : Obj) : ((w.alloc a).alloc b).heap[w.heap.size + 1]? = some b := by
  have := heap_alloc_new (w.alloc a) b
  simpa using this
theorem ret_rm {fn : Func} {p : Tmp} (h : fn.results = #[.cell p 31]) {tmps : Array Value} {w : World} {S : Nat} {x : RM} {pp : Option Addr} {c : Nat} {R : Ending → World → Prop} (hp : tmps.getD p undef = .pointer (some ⟨S, 0, none⟩))
    (hb : w.heap[S]? = some (.cells (rmc x pp c) 31)) (hR : R (.returned (rmv x pp c)) w) : bodyPost Try.prog fn R .ret { tmps := tmps, defers := [] } w := by
  obtain ⟨h0, h1, h2, h3, h4, h5, h6, _⟩ := box7 hb
  refine bodyPost_ret (v := rmv x pp c) ?_ rfl hR
  rw [Array.getD_eq_getD_getElem?] at hp
  simp [results, h, hp, h0, h1, h2, h3, h4, h5, h6, go_sem]
theorem ret_rme {fn : Func} {p q : Tmp} (h : fn.results = #[.cell p 31, .tmp q]) {tmps : Array Value} {w : World} {S : Nat} {x : RM} {pp : Option Addr} {c : Nat} {z : Int} {R : Ending → World → Prop} (hp : tmps.getD p undef = .pointer (some ⟨S, 0, none⟩)) (hq : tmps.getD q undef = .int .i64 z)
    (hb : w.heap[S]? = some (.cells (rmc x pp c) 31)) (hR : R (.returned (.tuple #[rmv x pp c, .int .i64 z])) w) : bodyPost Try.prog fn R .ret { tmps := tmps, defers := [] } w := by
  obtain ⟨h0, h1, h2, h3, h4, h5, h6, _⟩ := box7 hb
  refine bodyPost_ret (v := .tuple #[rmv x pp c, .int .i64 z]) ?_ rfl hR
  rw [Array.getD_eq_getD_getElem?] at hp hq
  simp [results, h, hp, hq, h0, h1, h2, h3, h4, h5, h6, go_sem]
theorem rword_any (v : Int) (w : World) : Calls Try.prog 32 #[.int .i16 v] w fun e w' => ∃ p c, e = .returned (.slice p 2 c) ∧ Bin w' p c (wordB v) ∧ Grew w w' := by
  go_enter Try.func32, Try.ntmps32
  go_wp2
  go_ret
  refine ⟨_, _, rfl, ?_, (Grew.refl w).al _⟩
  refine Bin.made w _ 2 _ _ _ ?_ rfl (by omega)
  rw [← wordB_cells]
  simp [IntKind.wrap, IntKind.bits, IntKind.signed]
  omega
theorem rarm_any (x : RM) (p : Option Addr) (c : Nat) (n : Int) (w : World) : Calls Try.prog 33 #[rmv x p c, .int .i64 n] w fun e w' => e = .returned (rmv { x with armed := decide (0 ≤ n), left := n } p c) ∧ Grew w w' := by
  obtain ⟨B, off, armed, left, metered, bud, wc⟩ := x
  go_enter Try.func33, Try.ntmps33
  go_wp2
  exact ret_rm Try.results33 rfl (x := ⟨B, off, decide (0 ≤ n), n, metered, bud, wc⟩) (pp := p) (c := c) (heap_second _ _ _) ⟨rfl, ((Grew.refl w).al _).al _⟩
theorem rpon_any (x : RM) (p : Option Addr) (c : Nat) (w : World) : Calls Try.prog 35 #[rmv x p c] w fun e w' => e = .returned (rmv { x with off := false, armed := false } p c) ∧ Grew w w' := by
  obtain ⟨B, off, armed, left, metered, bud, wc⟩ := x
  go_enter Try.func35, Try.ntmps35
  go_wp2
  exact ret_rm Try.results35 rfl (x := ⟨B, false, false, left, metered, bud, wc⟩) (pp := p) (c := c) (heap_second _ _ _) ⟨rfl, ((Grew.refl w).al _).al _⟩
/-- The statements' meter. -/
theorem mkmeter_any (n : Int) (w : World) : Calls Try.prog 34 #[.int .i64 n] w fun e w' => e = .returned (.func (.func 42) #[] #[.pointer (some ⟨w.heap.size, 0, none⟩)]) ∧ w' = w.alloc (.cells #[.int .i64 n] 3) := by
  have hmf : ∀ (fn : Fn) (first cap : Array Value) (w : World), (Instr.makeFunc fn first cap).run Try.prog w = .ok (.func fn first cap) w := fun _ _ _ _ => rfl
  go_enter Try.func34, Try.ntmps34
  go_wp2
  go_ret
  exact ⟨rfl, rfl⟩
/-- The reference's new memory. -/
def rm0 (n : Nat) : RM := ⟨List.replicate n 0, false, false, 0, false, 0, 0⟩
theorem rnew_bad (z : Int) (w : World) (hz : ¬ (1 ≤ z ∧ z ≤ 65536)) : Calls Try.prog 12 #[.int .i64 z] w fun e w' => e = .returned (.tuple #[rmv ⟨[], false, false, 0, false, 0, 0⟩ none 0, .int .i64 1]) ∧ Grew w w' := by
  by_cases hz1 : z < 1
  · go_enter Try.func12, Try.ntmps12
    go_wp2
    exact ret_rme Try.results12 rfl rfl (x := ⟨[], false, false, 0, false, 0, 0⟩) (pp := none) (c := 0) (z := 1) (heap_alloc_new _ _) ⟨rfl, (Grew.refl w).al _⟩
  · have hz2 : (65536 : Int) < z := by omega
    go_enter Try.func12, Try.ntmps12
    go_wp2
    exact ret_rme Try.results12 rfl rfl (x := ⟨[], false, false, 0, false, 0, 0⟩) (pp := none) (c := 0) (z := 1) (heap_alloc_new _ _) ⟨rfl, (Grew.refl w).al _⟩
theorem rnew_any (n : Nat) (w : World) (hz : 1 ≤ n ∧ n ≤ 65536) : Calls Try.prog 12 #[.int .i64 n] w fun e w' => ∃ p c, e = .returned (.tuple #[rmv (rm0 n) p c, .int .i64 0]) ∧ Bin w' p c (rm0 n).B ∧ (∀ a, p = some a → w.heap.size ≤ a.block) ∧ Grew w w' := by
  have hz1 : ¬ (n : Int) < 1 := by omega
  have hz2 : ¬ (65536 : Int) < (n : Int) := by omega
  have hz3 : n ≤ 65536 := hz.2
  clear hz
  go_enter Try.func12, Try.ntmps12
  go_wp2_with (at_make; refine wpList_make_zeros rfl _ _ 29 rfl (w.heap.size + 1) 5 Try.underlying29 info_u8 _ _ _ _ n rfl rfl rfl rfl (by omega) (by simp) ?_; intro w1 ho1 hb1; have hZ := (hb1.block w.heap.size (by omega)).trans (heap_alloc_new w _); obtain ⟨z0, z1, z2, z3, z4, z5, z6, zf⟩ := box7 hZ; have HZ := Lib.hid hZ; have HO : Hid (Bin w1 (some ⟨w.heap.size + 1, 0, none⟩) n (List.replicate n 0)) := Lib.hid (by simpa using ho1.bin.2); have HG := Lib.hid (Below.trans ((Grew.refl w).al _) (hb1.mono (Nat.le_succ _))); clear hZ ho1 hb1)
  have e : rmc (rm0 n) (some ⟨w.heap.size + 1, 0, none⟩) n = #[.slice (some ⟨w.heap.size + 1, 0, none⟩) n n, .bool false, .bool false, .int .i64 0, .bool false, .int .i64 0, .int .i64 0] := by simp [rm0]
  refine ret_rme Try.results12 rfl rfl (x := rm0 n) (pp := some ⟨w.heap.size + 1, 0, none⟩) (c := n) (z := 0) (by rw [e]; exact heap7 HZ.out) ⟨_, _, rfl, ?_, fun ad had => ?_, (Grew.sc (Grew.sc (Grew.sc (Grew.sc (Grew.sc (Grew.sc (Grew.sc HG.out (Nat.le_refl _) 0 _) (Nat.le_refl _) 1 _) (Nat.le_refl _) 2 _) (Nat.le_refl _) 3 _) (Nat.le_refl _) 4 _) (Nat.le_refl _) 5 _) (Nat.le_refl _) 6 _)⟩
  · show Bin _ _ _ (List.replicate n 0)
    exact HO.out.chg ((((((((Chg.refl w1 (fun k => k = w.heap.size)).then_set ⟨w.heap.size, 0, none⟩ _ rfl).then_set ⟨w.heap.size, 1, none⟩ _ rfl).then_set ⟨w.heap.size, 2, none⟩ _ rfl).then_set ⟨w.heap.size, 3, none⟩ _ rfl).then_set ⟨w.heap.size, 4, none⟩ _ rfl).then_set ⟨w.heap.size, 5, none⟩ _ rfl).then_set ⟨w.heap.size, 6, none⟩ _ rfl) (fun ad had hj => by obtain rfl := Option.some.inj had; exact absurd hj (by simp))
  · obtain rfl := Option.some.inj had
    exact Nat.le_succ _
theorem size2 (w : World) (a b : Obj) : ((w.alloc a).alloc b).heap.size = w.heap.size + 1 + 1 := by simp
theorem size3le (w : World) (a b c : Obj) : w.heap.size + 1 + 1 ≤ (((w.alloc a).alloc b).alloc c).heap.size := by simp
/-- What the reference reads. -/
def rrd (x : RM) (a n : Int) : List UInt8 := rds ⟨x.B, x.off, 0, .no, 0⟩ a n
theorem rreadBytes_any (x : RM) (p : Option Addr) (c : Nat) (a n : Int) (w : World) (hB : x.B.length ≤ 65536) (hx : Bin w p c x.B) (hn : n ≤ 9223372036854775807) :
    Calls Try.prog 38 #[rmv x p c, .int .i64 a, .int .i64 n] w fun e w' => ∃ p' c', e = .returned (.slice p' (rrd x a n).length c') ∧ Bin w' p' c' (rrd x a n) ∧ Grew w w' := by
  have HX := Lib.hid hx
  have HV : Hid (∀ W, Calls Try.prog 36 #[rmv x p c, .int .i64 a, .int .i64 n] W fun e w' => e = .returned (.bool (validB x.B.length a n)) ∧ w' = W.alloc (.cells (rmc x p c) 31)) := Lib.hid fun W => rvalid_any x p c a n W hB hn
  clear hx
  obtain ⟨B, off, armed, left, metered, bud, wc⟩ := x
  simp only at HV HX hB
  cases hv : validB B.length a n with
  | false =>
    have e : rrd ⟨B, off, armed, left, metered, bud, wc⟩ a n = [] := by simp [rrd, rds, hv]
    rw [e]
    rw [hv] at HV
    go_enter Try.func38, Try.ntmps38
    go_wp2_with (go_at_call 36; (with_reducible refine (HV.out _).mono ?_); rintro e w1 ⟨rfl, rfl⟩)
    go_ret
    exact ⟨none, 0, rfl, Bin.nil _, ((Grew.refl w).al _).al _⟩
  | true =>
    obtain ⟨ha0, hn0, ha1⟩ := validB_iff.1 hv
    obtain ⟨k, rfl⟩ : ∃ k : Nat, a = (k : Int) := ⟨a.toNat, by omega⟩
    obtain ⟨m, rfl⟩ : ∃ m : Nat, n = (m : Int) := ⟨n.toNat, by omega⟩
    have hkm : k + m ≤ B.length := by omega
    cases off with
    | true =>
      have e : rrd ⟨B, true, armed, left, metered, bud, wc⟩ k m = List.replicate m 0 := by simp [rrd, rds, hv]
      rw [e, List.length_replicate]
      rw [hv] at HV
      clear e hv
      go_enter Try.func38, Try.ntmps38
      go_wp2_with (first
        | (go_at_call 36; (with_reducible refine (HV.out _).mono ?_); rintro e w1 ⟨rfl, rfl⟩)
        | (at_make; refine wpList_make_zeros rfl _ _ 29 rfl (w.heap.size + 1 + 1) 5 Try.underlying29 info_u8 _ _ _ _ m rfl rfl rfl rfl (by omega) (by simp) ?_; intro w1 ho1 hb1))
      go_ret
      exact ⟨_, _, rfl, by simpa using ho1.bin.2, Below.trans (((Grew.refl w).al _).al _) (hb1.mono (by omega))⟩
    | false =>
      have e : rrd ⟨B, false, armed, left, metered, bud, wc⟩ k m = (B.drop k).take m := by simp [rrd, rds, hv]
      have el : ((B.drop k).take m).length = m := by simp; omega
      rw [e, el]
      rw [hv] at HV
      clear e hv
      have hw : IntKind.i64.wrap ((k : Int) + m) = ((k + m : Nat) : Int) := by rw [IntWalk.i64_in _ (by omega)]; omega
      go_enter Try.func38, Try.ntmps38
      go_wp2_with (first
        | (go_at_call 36; (with_reducible refine (HV.out _).mono ?_); rintro e w1 ⟨rfl, rfl⟩)
        | (refine wpList_cut_lh rfl (.tmp 18) _ (.tmp 19) (.tmp 22) rfl under_bytes size_u8 _ _ c B rfl rfl HX.out _ _ _ _ k (k + m) rfl rfl rfl (by omega) (by omega) (by omega) ?_; intro pD cD nD ds hdl hd hnD hdb; have HD := Lib.hid hdb; have HDL := Lib.hid hdl; clear hdb hdl)
        | (at_builtin; refine wpList_append_bytes rfl (.tmp 16) _ 29 rfl (w.heap.size + 1 + 1) 5 _ Try.underlying29 info_u8 rfl _ [] rfl (own_lit_at _ _ _ (size2 w _ _)) _ _ cD ds rfl HDL.out (HD.out.gr ((((Grew.refl w).al _).al _).al _)) (by rw [HDL.out]; show 0 + _ ≤ _; omega) (size3le w _ _ _) ?_; intro pO cO us w2 hu ho1 hb1))
      have e1 : us = ds := by simpa using hu.out
      have e3 : ds = (B.drop k).take m := by
        rw [hd.out, List.drop_take]
        congr 1
        omega
      have hul : us.length = m := by rw [e1, e3]; exact el
      rw [hul]
      go_ret
      refine ⟨_, _, rfl, ?_, Below.trans ((((Grew.refl w).al _).al _).al _) (hb1.mono (by omega))⟩
      rw [← e3, ← e1]
      exact ho1.bin.2
theorem u16_join (x y : UInt8) : IntKind.i16.wrap (IntKind.u16.wrap (IntKind.u16.wrap (x.toNat : Int) + IntKind.u16.wrap (256 * IntKind.u16.wrap (y.toNat : Int)))) = IntKind.i16.wrap ((x.toNat : Int) + 256 * (y.toNat : Int)) := by
  have hx := x.toNat_lt
  have hy := y.toNat_lt
  have e : ∀ n : Int, IntKind.u16.wrap n = n % 65536 := fun n => by simp [IntKind.wrap, IntKind.bits, IntKind.signed]
  simp only [e, wrap16]
  omega
theorem rreadWord_any (x : RM) (p : Option Addr) (c : Nat) (a : Int) (w : World) (hB : x.B.length ≤ 65536) (hx : Bin w p c x.B) :
    Calls Try.prog 37 #[rmv x p c, .int .i64 a] w fun e w' => e = .returned (.int .i16 (rdw ⟨x.B, x.off, 0, .no, 0⟩ a)) ∧ Grew w w' := by
  have HR : Hid (∀ W, Grew w W → Calls Try.prog 38 #[rmv x p c, .int .i64 a, .int .i64 2] W fun e w' => ∃ p' c', e = .returned (.slice p' (rrd x a 2).length c') ∧ Bin w' p' c' (rrd x a 2) ∧ Grew W w') := Lib.hid fun W hg => rreadBytes_any x p c a 2 W hB (hx.gr hg) (by omega)
  clear hx
  obtain ⟨B, off, armed, left, metered, bud, wc⟩ := x
  simp only at HR hB ⊢
  cases hv : validB B.length a 2 with
  | false =>
    have e : rrd ⟨B, off, armed, left, metered, bud, wc⟩ a 2 = [] := by simp [rrd, rds, hv]
    have e2 : rdw ⟨B, off, 0, .no, 0⟩ a = 0 := by simp [rdw, hv]
    rw [e] at HR
    rw [e2]
    clear e e2 hv
    go_enter Try.func37, Try.ntmps37
    go_wp2_with (go_at_call 38; (with_reducible refine (HR.out _ ((Grew.refl w).al _)).mono ?_); rintro e w1 ⟨p1, c1, rfl, h1, g1⟩)
    go_ret
    exact ⟨rfl, Grew.trans ((Grew.refl w).al _) g1⟩
  | true =>
    obtain ⟨ha0, -, ha1⟩ := validB_iff.1 hv
    obtain ⟨y0, y1, e, e2⟩ : ∃ y0 y1 : UInt8, rrd ⟨B, off, armed, left, metered, bud, wc⟩ a 2 = [y0, y1] ∧ rdw ⟨B, off, 0, .no, 0⟩ a = IntKind.i16.wrap ((y0.toNat : Int) + 256 * (y1.toNat : Int)) := by
      cases off with
      | true =>
        refine ⟨0, 0, by simp [rrd, rds, hv], ?_⟩
        simp [rdw]
        decide
      | false =>
        have hk : a.toNat + 1 < B.length := by omega
        refine ⟨B.getD a.toNat 0, B.getD (a.toNat + 1) 0, ?_, by simp [rdw, hv]⟩
        have hk0 : a.toNat < B.length := by omega
        have e2 : (2 : Int).toNat = 2 := rfl
        simp only [rrd, rds, hv, if_true, Bool.false_eq_true, if_false, e2]
        rw [List.drop_eq_getElem_cons hk0, List.drop_eq_getElem_cons hk]
        simp only [List.take_succ_cons, List.take_zero, List.getD, List.getElem?_eq_getElem hk, List.getElem?_eq_getElem hk0, Option.getD_some]
    rw [e] at HR
    rw [e2]
    clear e e2 hv
    go_enter Try.func37, Try.ntmps37
    go_wp2_with (go_at_call 38; (with_reducible refine (HR.out _ ((Grew.refl w).al _)).mono ?_); rintro e w1 ⟨p1, c1, rfl, h1, g1⟩; obtain ⟨b, o, rfl, hc⟩ := h1.cells (by simp); have hc0 : w1.cell? ⟨b, o, none⟩ = some (.int .u8 (y0.toNat : Int)) := hc 0 (by simp); have hc1 : w1.cell? ⟨b, o + 1, none⟩ = some (.int .u8 (y1.toNat : Int)) := hc 1 (by simp); have HG := Lib.hid (Grew.trans ((Grew.refl w).al _) g1); clear hc h1 g1)
    go_quiet (fail)
    go_wp2
    rw [u16_join]
    go_ret
    exact ⟨rfl, Grew.drwN HG.out _⟩
end Go.Proofs.Ytmfahmbebpojpaa
