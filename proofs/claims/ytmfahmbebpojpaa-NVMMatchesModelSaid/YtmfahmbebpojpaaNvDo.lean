/-
  LAYER 7 (nvm): the statements' do: what it leaves; Arm, Meter(nil), PowerOff, PowerOn.
-/
import Derived.Test.YtmfahmbebpojpaaNvSame
namespace Go.Proofs.Ytmfahmbebpojpaa
open Go Go.RowKit Go.IntWalk
set_option linter.unusedSimpArgs false
set_option maxRecDepth 8000

/-- An operation as a value. -/
abbrev opv (kd ad nn : Int) (bp : Option Addr) (nb bc : Nat) : Value := .agg #[.int .u8 kd, .int .i64 ad, .int .i64 nn, .slice bp nb bc]
/-- What do leaves. -/
def DoPost (g q : Nat) (s : NV) (p : Option Addr) (L : Int) (xl : Nat) (w0 : World) (e : Ending) (w' : World) : Prop :=
  ∃ x' p' c' s', e = .returned (.tuple #[rmv x' p' c', .bool true]) ∧ NvS w' g q s' ∧ Bin w' p' c' x'.B ∧ Near w0 p p' ∧ Sim (L - 1) s' x' ∧ Chg w0 w' (Nvb g q s.mt) ∧ (∀ j, s'.mt.blk j → s.mt.blk j ∨ w0.heap.size ≤ j) ∧ Away (Nvb g q s'.mt) p' ∧ x'.B.length = xl
theorem Chg.drop {a c : World} {S : Nat → Prop} (h : Chg a c (fun k => S k ∨ a.heap.size ≤ k)) : Chg a c S := ⟨h.os, h.tape, h.output, h.size, fun k hk hs => h.block k hk fun h' => by rcases h' with h' | h'; exact hs h'; omega⟩
/-- First the memory grows, then named blocks change, then a new one. -/
theorem chg3 {a b c : World} {S : Nat → Prop} (h1 : Grew a b) (h2 : Chg b c S) {N : Nat} (hN : a.heap.size ≤ N) (x : RM) (p : Option Addr) (d : Nat) : Chg a (set7 c N x p d) S :=
  Chg.drop (((Chg.of_grew h1 _).trans (h2.mono fun _ h => .inl h)).trans ((set7_chg c N x p d).mono fun _ hk => .inr (hk ▸ hN)))
theorem NvS.boxed {w w' : World} {g q S : Nat} {s : NV} {x0 : RM} {p0 : Option Addr} {c0 : Nat} (h : NvS w g q s) (hb : BoxR S x0 p0 c0 w) (hC : Chg w w' (fun k => k = S)) : NvS w' g q s := by
  have hb' : w.heap[S]? = some (.cells (rmc x0 p0 c0) 31) := hb
  have ne : ∀ {k : Nat} {cs : Array Value} {e : TypeId}, w.heap[k]? = some (.cells cs e) → e ≠ 31 → k ≠ S := fun hk he e => by
    rw [e, hb'] at hk
    simp only [Option.some.injEq, Obj.cells.injEq] at hk
    exact he hk.2.1.symm
  have keep : ∀ {k : Nat} {cs : Array Value} {e : TypeId}, w.heap[k]? = some (.cells cs e) → e ≠ 31 → w'.heap[k]? = some (.cells cs e) := fun hk he => (hC.block _ (lt_of_heap hk) (ne hk he)).trans hk
  refine ⟨keep h.record (by decide), keep h.row (by decide), ?_, h.most⟩
  have hm := h.mt
  cases hs : s.mt with
  | no => trivial
  | down b n => rw [hs] at hm; exact keep hm (by decide)
  | up b kb c k => rw [hs] at hm; exact ⟨keep hm.1 (by decide), keep hm.2.1 (by decide), hm.2.2⟩
theorem NvS.set7 {w : World} {g q S : Nat} {s : NV} {x0 : RM} {p0 : Option Addr} {c0 : Nat} (h : NvS w g q s) (hb : BoxR S x0 p0 c0 w) (x : RM) (p : Option Addr) (c : Nat) : NvS (set7 w S x p c) g q s := h.boxed hb (set7_chg w S x p c)
theorem Bin.boxed {S : Nat} {x : RM} {p0 : Option Addr} {c0 : Nat} {w w' : World} (hb : BoxR S x p0 c0 w) {p : Option Addr} {c : Nat} {xs : List UInt8} (h : Bin w p c xs) (hC : Chg w w' (fun k => k = S)) : Bin w' p c xs := by
  refine ⟨h.cap, h.max, h.bare, fun hn => ?_⟩
  obtain ⟨b, o, rfl, hc⟩ := h.cells hn
  have hne : b ≠ S := fun e => by
    have h0 := hc 0 hn
    rw [e, Nat.add_zero, cells_of_heap hb] at h0
    match o, h0 with
    | 0, h0 => simp [bv] at h0
    | 1, h0 => simp [bv] at h0
    | 2, h0 => simp [bv] at h0
    | 3, h0 => simp [bv] at h0
    | 4, h0 => simp [bv] at h0
    | 5, h0 => simp [bv] at h0
    | 6, h0 => simp [bv] at h0
    | o + 7, h0 => simp at h0
  refine ⟨b, o, rfl, fun i hi => ?_⟩
  have hl : b < w.heap.size := World.block_lt_of_cell? _ _ (hc i hi)
  rw [World.cell?_of_block (w := w) (w' := w') (a := ⟨b, o + i, none⟩) (hC.block b hl hne)]
  exact hc i hi
theorem Sim.leS {L : Int} {s : NV} {x : RM} (h : Sim L s x) : s.B.length = x.B.length := by rw [h.B]
theorem box4 {w : World} {b : Nat} {v0 v1 v2 v3 : Value} {e : TypeId} (h : w.heap[b]? = some (.cells #[v0, v1, v2, v3] e)) :
    w.cell? ⟨b, 0, none⟩ = some v0 ∧ w.cell? ⟨b, 1, none⟩ = some v1 ∧ w.cell? ⟨b, 2, none⟩ = some v2 ∧ w.cell? ⟨b, 3, none⟩ = some v3 := by
  refine ⟨?_, ?_, ?_, ?_⟩ <;> rw [cells_of_heap h] <;> rfl
theorem heap_third (w : World) (a b c : Obj) : (((w.alloc a).alloc b).alloc c).heap[w.heap.size + 1 + 1]? = some c := by
  have := heap_alloc_new ((w.alloc a).alloc b) c
  simpa using this
/-- What every operation may ask for. -/
structure DoIn (g q : Nat) (s : NV) (x : RM) (p : Option Addr) (c : Nat) (L : Int) (w0 : World) : Prop where
  S : NvS w0 g q s
  B : Bin w0 p c x.B
  A : Away (Nvb g q s.mt) p
  M : Sim L s x
  pos : 0 < x.B.length
theorem DoIn.most {g q : Nat} {s : NV} {x : RM} {p : Option Addr} {c : Nat} {L : Int} {w0 : World} (h : DoIn g q s x p c L w0) : x.B.length ≤ 65536 := h.M.B ▸ h.S.most
theorem DoIn.notNew {g q : Nat} {s : NV} {x : RM} {p : Option Addr} {c : Nat} {L : Int} {w0 : World} (h : DoIn g q s x p c L w0) {k : Nat} (hk : w0.heap.size ≤ k) : ¬ Nvb g q s.mt k := fun hn => by have := h.S.blk_lt hn; omega
section
variable (g q : Nat) (s : NV) (x : RM) (p : Option Addr) (c : Nat) (L : Int) (kd ad nn : Int) (bp : Option Addr) (nb bc : Nat) (w0 : World) (hI : DoIn g q s x p c L w0) (hL : -9223372036854775807 ≤ L ∧ L ≤ 0) (hn : -9223372036854775808 ≤ nn ∧ nn ≤ 9223372036854775807)
set_option linter.unusedSectionVars false
/-- The end of an operation that has changed the memory's blocks, and the box of x. -/
theorem do_end {fn : Func} (h : fn.results = #[.cell 6 31, .tmp 7]) {tmps : Array Value} {w : World} (x1 : RM) (p1 : Option Addr) (c1 : Nat) (s1 : NV) (hp : tmps.getD 6 undef = .pointer (some ⟨w0.heap.size + 1 + 1, 0, none⟩)) (hq : tmps.getD 7 undef = .bool true)
    (hz : BoxZ (w0.heap.size + 1 + 1) w) (hS : NvS w g q s1) (hB : Bin w p1 c1 x1.B) (hN : Near w0 p p1) (hM : Sim (L - 1) s1 x1) (hC : Chg w0 w (Nvb g q s.mt)) (hm : ∀ j, s1.mt.blk j → s.mt.blk j ∨ w0.heap.size ≤ j) (hA : Away (Nvb g q s1.mt) p1) (hl : x1.B.length = x.B.length) :
    bodyPost Try.prog fn (DoPost g q s p L x.B.length w0) .ret { tmps := tmps, defers := [] } (set7 w (w0.heap.size + 1 + 1) x1 p1 c1) :=
  ret_rmb h hp hq (x := x1) (pp := p1) (c := c1) (hz.set7 x1 p1 c1) ⟨x1, p1, c1, s1, rfl, NvS.set7 (x0 := ⟨[], false, false, 0, false, 0, 0⟩) (p0 := none) (c0 := 0) hS hz x1 p1 c1, Bin.boxr (x := ⟨[], false, false, 0, false, 0, 0⟩) (p0 := none) (c0 := 0) hz hB x1 p1 c1, hN, hM, Chg.drop ((hC.mono fun _ h => .inl h).trans ((set7_chg w _ x1 p1 c1).mono fun _ hk => .inr (by rw [hk]; omega))), hm, hA, hl⟩
/-- The same, where the box of x has changed before. -/
theorem do_end2 {fn : Func} (h : fn.results = #[.cell 6 31, .tmp 7]) {tmps : Array Value} {w1 w : World} (xa : RM) (pa : Option Addr) (ca : Nat) (x1 : RM) (p1 : Option Addr) (c1 : Nat) (s1 : NV) (hp : tmps.getD 6 undef = .pointer (some ⟨w0.heap.size + 1 + 1, 0, none⟩)) (hq : tmps.getD 7 undef = .bool true)
    (hb : BoxR w0.heap.size xa pa ca w1) (hc2 : Chg w1 w (fun k => k = w0.heap.size))
    (hz : BoxZ (w0.heap.size + 1 + 1) w1) (hS : NvS w1 g q s1) (hB : Bin w1 p1 c1 x1.B) (hN : Near w0 p p1) (hM : Sim (L - 1) s1 x1) (hC : Chg w0 w1 (Nvb g q s.mt)) (hm : ∀ j, s1.mt.blk j → s.mt.blk j ∨ w0.heap.size ≤ j) (hA : Away (Nvb g q s1.mt) p1) (hl : x1.B.length = x.B.length) :
    bodyPost Try.prog fn (DoPost g q s p L x.B.length w0) .ret { tmps := tmps, defers := [] } (set7 w (w0.heap.size + 1 + 1) x1 p1 c1) :=
  do_end g q s x p L w0 h x1 p1 c1 s1 hp hq (hz.chg hc2 (by omega)) (hS.boxed hb hc2) (Bin.boxed hb hB hc2) hN hM (Chg.drop ((hC.mono fun _ h => .inl h).trans (hc2.mono fun _ hk => .inr (by rw [hk]; exact Nat.le_refl _)))) hm hA hl
include hI hL hn
theorem do_poff (hk : kd.tmod 9 = 6) : Calls Try.prog 13 #[.pointer (some ⟨q, 0, none⟩), rmv x p c, opv kd ad nn bp nb bc] w0 (DoPost g q s p L x.B.length w0) := by
  have HI := Lib.hid hI
  clear hI
  go_enter Try.func13, Try.ntmps13
  go_wp2_with (go_at_call 24; (with_reducible refine (poff_any g q s _ (HI.out.S.grew ((((Grew.refl w0).al _).al _).al _))).mono ?_); rintro e w1 ⟨rfl, s1, c1⟩; have hA := (c1.block w0.heap.size (by simp; omega) (HI.out.notNew (Nat.le_refl _))).trans (heap_low w0 _ _ _); have hZ := (c1.block (w0.heap.size + 1 + 1) (by simp) (HI.out.notNew (by omega))).trans (heap_third w0 _ _ _); have hO := (c1.block (w0.heap.size + 1) (by rw [size3]; omega) (HI.out.notNew (by omega))).trans (heap_mid w0 _ _ _); obtain ⟨o0, o1, o2, o3⟩ := box4 hO; obtain ⟨a0, a1, a2, a3, a4, a5, a6, af⟩ := box7 hA; obtain ⟨z0, z1, z2, z3, z4, z5, z6, zf⟩ := box7 hZ; have HA := Lib.hid hA; have HZ := Lib.hid hZ; have HO := Lib.hid hO; have S1 := Lib.hid s1; have C1 := Lib.hid ((Chg.of_grew ((((Grew.refl w0).al _).al _).al _) _).trans c1); have B1 := Lib.hid ((HI.out.B.gr ((((Grew.refl w0).al _).al _).al _)).chg c1 HI.out.A); have hsz := lt_of_heap hZ; clear s1 c1 hA hZ hO)
  exact do_end2 g q s x p L w0 Try.results13 x p c { x with off := true } p c { s with off := true } rfl rfl HA.out (Chg.set w1 ⟨w0.heap.size, 1, none⟩ _) HZ.out S1.out B1.out (.inl rfl) ⟨HI.out.M.B, rfl, HI.out.M.wr, HI.out.M.left, HI.out.M.mt.mono (by omega)⟩ C1.out (fun j hj => .inl hj) HI.out.A rfl
theorem do_nometer (hk : kd.tmod 9 = 5) : Calls Try.prog 13 #[.pointer (some ⟨q, 0, none⟩), rmv x p c, opv kd ad nn bp nb bc] w0 (DoPost g q s p L x.B.length w0) := by
  have HI := Lib.hid hI
  clear hI
  have HM : Hid (∀ W, NvS W g q s → Calls Try.prog 22 #[.pointer (some ⟨q, 0, none⟩), .nilFunc] W fun e w' => e = .returned (.tuple #[]) ∧ NvS w' g q { s with mt := .no } ∧ Chg W w' (Nvb g q s.mt)) := Lib.hid fun W h => meter_any g q s .no W h trivial (fun _ _ e => by cases e) (fun _ _ _ _ e => by cases e)
  go_enter Try.func13, Try.ntmps13
  go_wp2_with (go_at_call 22; (with_reducible refine (HM.out _ (HI.out.S.grew ((((Grew.refl w0).al _).al _).al _))).mono ?_); rintro e w1 ⟨rfl, s1, c1⟩; have hA := (c1.block w0.heap.size (by simp; omega) (HI.out.notNew (Nat.le_refl _))).trans (heap_low w0 _ _ _); have hZ := (c1.block (w0.heap.size + 1 + 1) (by simp) (HI.out.notNew (by omega))).trans (heap_third w0 _ _ _); have hO := (c1.block (w0.heap.size + 1) (by rw [size3]; omega) (HI.out.notNew (by omega))).trans (heap_mid w0 _ _ _); obtain ⟨o0, o1, o2, o3⟩ := box4 hO; obtain ⟨a0, a1, a2, a3, a4, a5, a6, af⟩ := box7 hA; obtain ⟨z0, z1, z2, z3, z4, z5, z6, zf⟩ := box7 hZ; have HA := Lib.hid hA; have HZ := Lib.hid hZ; have HO := Lib.hid hO; have S1 := Lib.hid s1; have C1 := Lib.hid ((Chg.of_grew ((((Grew.refl w0).al _).al _).al _) _).trans c1); have B1 := Lib.hid ((HI.out.B.gr ((((Grew.refl w0).al _).al _).al _)).chg c1 HI.out.A); have hsz := lt_of_heap hZ; clear s1 c1 hA hZ hO)
  exact do_end2 g q s x p L w0 Try.results13 x p c { x with metered := false } p c { s with mt := .no } rfl rfl HA.out (Chg.set w1 ⟨w0.heap.size, 4, none⟩ _) HZ.out S1.out B1.out (.inl rfl) ⟨HI.out.M.B, HI.out.M.off, HI.out.M.wr, HI.out.M.left, .inl ⟨rfl, rfl⟩⟩ C1.out (fun j hj => hj.elim) (fun ad had hj => HI.out.A ad had (by rcases hj with hj | hj | hj; exact .inl hj; exact .inr (.inl hj); exact hj.elim)) rfl
theorem do_pon (hk : kd.tmod 9 = 7) : Calls Try.prog 13 #[.pointer (some ⟨q, 0, none⟩), rmv x p c, opv kd ad nn bp nb bc] w0 (DoPost g q s p L x.B.length w0) := by
  have HI := Lib.hid hI
  clear hI
  go_enter Try.func13, Try.ntmps13
  go_wp2_with (first
    | (go_at_call 20; (with_reducible refine (pon_any g q s _ (HI.out.S.grew ((((Grew.refl w0).al _).al _).al _))).mono ?_); rintro e w1 ⟨rfl, s1, c1⟩; have hA := (c1.block w0.heap.size (by simp; omega) (HI.out.notNew (Nat.le_refl _))).trans (heap_low w0 _ _ _); have hZ := (c1.block (w0.heap.size + 1 + 1) (by simp) (HI.out.notNew (by omega))).trans (heap_third w0 _ _ _); have hO := (c1.block (w0.heap.size + 1) (by rw [size3]; omega) (HI.out.notNew (by omega))).trans (heap_mid w0 _ _ _); obtain ⟨o0, o1, o2, o3⟩ := box4 hO; obtain ⟨a0, a1, a2, a3, a4, a5, a6, af⟩ := box7 hA; obtain ⟨z0, z1, z2, z3, z4, z5, z6, zf⟩ := box7 hZ; have HA := Lib.hid hA; have HZ := Lib.hid hZ; have HO := Lib.hid hO; have S1 := Lib.hid s1; have C1 := Lib.hid ((Chg.of_grew ((((Grew.refl w0).al _).al _).al _) _).trans c1); have B1 := Lib.hid ((HI.out.B.gr ((((Grew.refl w0).al _).al _).al _)).chg c1 HI.out.A); have hsz := lt_of_heap hZ; clear s1 c1 hA hZ hO)
    | (go_at_call 35; (with_reducible refine (rpon_any x p c _).mono ?_); rintro e w2 ⟨rfl, g2⟩; have hZ2 := Grew.heap g2 HZ.out; obtain ⟨y0, y1, y2, y3, y4, y5, y6, yf⟩ := box7 hZ2; have HZ2 := Lib.hid hZ2; have G2 := Lib.hid g2; clear g2 hZ2))
  exact do_end g q s x p L w0 Try.results13 { x with off := false, armed := false } p c { s with off := false, left := -1 } rfl rfl HZ2.out (S1.out.grew G2.out) (B1.out.gr G2.out) (.inl rfl) ⟨HI.out.M.B, rfl, HI.out.M.wr, .inr ⟨rfl, rfl⟩, HI.out.M.mt.mono (by omega)⟩ (C1.out.trans (Chg.of_grew G2.out _)) (fun j hj => .inl hj) HI.out.A rfl
theorem do_arm (hk : kd.tmod 9 = 3) : Calls Try.prog 13 #[.pointer (some ⟨q, 0, none⟩), rmv x p c, opv kd ad nn bp nb bc] w0 (DoPost g q s p L x.B.length w0) := by
  have HI := Lib.hid hI
  clear hI
  go_enter Try.func13, Try.ntmps13
  go_wp2_with (first
    | (go_at_call 15; (with_reducible refine (arm_any g q s nn _ (HI.out.S.grew ((((Grew.refl w0).al _).al _).al _))).mono ?_); rintro e w1 ⟨rfl, s1, c1⟩; have hA := (c1.block w0.heap.size (by simp; omega) (HI.out.notNew (Nat.le_refl _))).trans (heap_low w0 _ _ _); have hZ := (c1.block (w0.heap.size + 1 + 1) (by simp) (HI.out.notNew (by omega))).trans (heap_third w0 _ _ _); have hO := (c1.block (w0.heap.size + 1) (by rw [size3]; omega) (HI.out.notNew (by omega))).trans (heap_mid w0 _ _ _); obtain ⟨o0, o1, o2, o3⟩ := box4 hO; obtain ⟨a0, a1, a2, a3, a4, a5, a6, af⟩ := box7 hA; obtain ⟨z0, z1, z2, z3, z4, z5, z6, zf⟩ := box7 hZ; have HA := Lib.hid hA; have HZ := Lib.hid hZ; have HO := Lib.hid hO; have S1 := Lib.hid s1; have C1 := Lib.hid ((Chg.of_grew ((((Grew.refl w0).al _).al _).al _) _).trans c1); have B1 := Lib.hid ((HI.out.B.gr ((((Grew.refl w0).al _).al _).al _)).chg c1 HI.out.A); have hsz := lt_of_heap hZ; clear s1 c1 hA hZ hO)
    | (go_at_call 33; (with_reducible refine (rarm_any x p c nn _).mono ?_); rintro e w2 ⟨rfl, g2⟩; have hZ2 := Grew.heap g2 HZ.out; obtain ⟨y0, y1, y2, y3, y4, y5, y6, yf⟩ := box7 hZ2; have HZ2 := Lib.hid hZ2; have G2 := Lib.hid g2; clear g2 hZ2))
  refine do_end g q s x p L w0 Try.results13 { x with armed := decide (0 ≤ nn), left := nn } p c { s with left := if nn < -1 then -1 else nn } rfl rfl HZ2.out (S1.out.grew G2.out) (B1.out.gr G2.out) (.inl rfl) ⟨HI.out.M.B, HI.out.M.off, HI.out.M.wr, ?_, HI.out.M.mt.mono (by omega)⟩ (C1.out.trans (Chg.of_grew G2.out _)) (fun j hj => .inl hj) HI.out.A rfl
  by_cases h0 : 0 ≤ nn
  · exact .inl ⟨by simpa using h0, by show (if nn < -1 then -1 else nn) = nn; rw [if_neg (by omega)], h0, hn.2⟩
  · refine .inr ⟨by simpa using h0, ?_⟩
    show (if nn < -1 then -1 else nn) = -1
    split <;> omega
end
end Go.Proofs.Ytmfahmbebpojpaa
